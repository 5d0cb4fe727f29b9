import PyProof.Rows.All
import Wide.All
import OpenK.AllK
import Wide.FinOn
import Lean
import PyProof.EqAt
import PyProof.EqKinds
import PyProof.TupleCall
import PyProof.ListMulRoad
import PyProof.Rows.ListMul
import PySem.Challenge.RW_vellum_k63_whole_rows_to_text_and_back
set_option Elab.async false
set_option linter.all false
set_option maxRecDepth 100000
set_option maxHeartbeats 4000000
namespace L2
open PySem PySem.Spec PyProof.Rows
def defArgs (s:Stmt):Arguments:=match s with
 | .FunctionDef _ a _ _ _ _ _ _ _ _=>a
 | _=>{ posonlyargs:=[],args:=[],vararg:=none,kwonlyargs:=[],kw_defaults:=[],kwarg:=none,defaults:=[] }
def defBody (s:Stmt):List Stmt:=match s with
 | .FunctionDef _ _ b _ _ _ _ _ _ _=>b
 | _=>[]
def defScope (s:Stmt):Scope:=match s with
 | .FunctionDef _ _ _ _ _ _ sc _ _ _=>sc
 | _=>{ kind:=.function,names:=[],isGenerator:=false,isCoroutine:=false }
end L2
namespace K63
open PySem PySem.Spec PyProof.Rows L2
def top (i:Nat):Stmt:=PySem.Challenge.pw_vellum_k63_whole_rows_to_text_and_back.main.body.getD i (.Pass ⟨0,0,0,0⟩)
abbrev sLooks:Stmt:=top 16
abbrev sSkF:Stmt:=top 36
abbrev sFits:Stmt:=top 37
abbrev sWd:Stmt:=top 38
abbrev sWw:Stmt:=top 39
abbrev sAfter:Stmt:=top 40
abbrev sPrice:Stmt:=top 41
abbrev sSwW:Stmt:=top 43
abbrev sSkL:Stmt:=top 44
abbrev sWays:Stmt:=top 45
abbrev sEmp:Stmt:=top 46
abbrev sTld:Stmt:=top 47
abbrev sRtab:Stmt:=top 48
abbrev sCW:Stmt:=top 50
abbrev sFC:Stmt:=top 51
abbrev sLaid:Stmt:=top 54
abbrev sRdf:Stmt:=top 5
abbrev sNof:Stmt:=top 6
abbrev sCB:Stmt:=top 7
abbrev sOB:Stmt:=top 8
abbrev sHas:Stmt:=top 14
abbrev sIsW:Stmt:=top 15
abbrev sWr:Stmt:=top 17
abbrev sNum:Stmt:=top 18
abbrev sEW:Stmt:=top 22
abbrev sRW:Stmt:=top 23
abbrev sNW:Stmt:=top 24
abbrev sAW:Stmt:=top 25
abbrev sER:Stmt:=top 26
abbrev sESR:Stmt:=top 27
abbrev sNR:Stmt:=top 28
abbrev sPR:Stmt:=top 29
abbrev sRR:Stmt:=top 30
abbrev sNTR:Stmt:=top 31
abbrev sAR:Stmt:=top 32
abbrev sEntry:Stmt:=top 55
abbrev sGapC:Stmt:=top 56
abbrev sColl:Stmt:=top 57
abbrev sColK:Stmt:=top 58
abbrev sBack:Stmt:=top 59
abbrev sCell:Stmt:=top 61
abbrev sDraw:Stmt:=top 62
abbrev sWordBy:Stmt:=top 63
abbrev sPool:Stmt:=top 64
abbrev sRowBy:Stmt:=top 65
abbrev sCopyBy:Stmt:=top 66
abbrev sPricesBy:Stmt:=top 67
abbrev sSame:Stmt:=top 68
abbrev sScene:Stmt:=top 69
abbrev sLaw:Stmt:=top 70
noncomputable abbrev en (P:Params) (z:Str) (t:Nat) (v:Value):DictEntry:=⟨PyData.keyHash P z,.str z t,v⟩
noncomputable abbrev fn (n:String) (s:Stmt) (m:String) (t c:Nat):Obj:=⟨.type "function",none,.func (PySem.W.fnOf (Str.ofString n) (Str.ofString n) (defArgs s) (defBody s) (defScope s) .none .none .none (.str (Str.ofString m) t) none (.ref c) .none),#[]⟩
noncomputable abbrev co (n:String) (t u v a b c r l q y m k z:Nat):Obj:={ cls:=.type "code",data:=.fields #[.str (Str.ofString n) t,.str (Str.ofString n) u,.str (Str.ofString "/claim/cut.py") v,.int a 0,.int b 0,.int 0 0,.int 0 0,.int c 0,.ref r,.bool true,.int l 0,.ref q,.none,.none,.none,.ref y,.int m 0,.int k 0,.str (Str.ofString "/claim/cut.py") z] }
noncomputable def hp:Params->PySem.W.Frag:=fun P=>
 (nat_lit 2,({ cls:=.none,data:=.dict #[] }:Obj)) ::
 (nat_lit 3,({ cls:=.type "dict",data:=.dict #[en P (Str.ofString "__name__") 165 (.str (Str.ofString "law_vellum_k63_whole_rows_to_text_and_back") 618),en P (Str.ofString "__doc__") 166 (.none),en P (Str.ofString "__package__") 167 (.none),en P (Str.ofString "__loader__") 168 (.builtin "__main__.__loader__#opaque"),en P (Str.ofString "__spec__") 169 (.none),en P (Str.ofString "__annotations__") 170 (.ref 6),en P (Str.ofString "__builtins__") 171 (.ref 4),en P (Str.ofString "__file__") 173 (.str (Str.ofString "/claim/cut.py") 172),en P (Str.ofString "__cached__") 174 (.none),en P (Str.ofString "VellumError") 206 (.ref 24),en P (Str.ofString "NoSlips") 222 (.ref 37),en P (Str.ofString "NoNotes") 238 (.ref 49),en P (Str.ofString "readings_of") 250 (.ref 58),en P (Str.ofString "notes_of") 256 (.ref 63),en P (Str.ofString "column_back") 269 (.ref 70),en P (Str.ofString "collation_back") 275 (.ref 75),en P (Str.ofString "LETTERS") 279 (.str (Str.ofString "abcdefghijklmnopqrstuvwxyz") 278),en P (Str.ofString "FIGURES") 281 (.str (Str.ofString "0123456789") 280),en P (Str.ofString "MOST_LETTERS") 283 (.int 12 282),en P (Str.ofString "MOST_PRICE") 285 (.int 1000000000000000000000000000000 284),en P (Str.ofString "has_only") 291 (.ref 80),en P (Str.ofString "is_word") 298 (.ref 87),en P (Str.ofString "looks_alike") 304 (.ref 92),en P (Str.ofString "writes_number") 311 (.ref 99),en P (Str.ofString "number_of") 320 (.ref 106),en P (Str.ofString "MOST_ROWS") 324 (.int 30 323),en P (Str.ofString "NO_ENTRY") 326 (.str (Str.ofString "-") 325),en P (Str.ofString "entry_written") 333 (.ref 113),en P (Str.ofString "reading_written") 339 (.ref 118),en P (Str.ofString "note_written") 345 (.ref 123),en P (Str.ofString "apparatus_written") 351 (.ref 128),en P (Str.ofString "entry_read") 358 (.ref 135),en P (Str.ofString "entries_read") 364 (.ref 140),en P (Str.ofString "number_read") 372 (.ref 147),en P (Str.ofString "parts_read") 381 (.ref 154),en P (Str.ofString "reading_read") 387 (.ref 159),en P (Str.ofString "note_read") 393 (.ref 164),en P (Str.ofString "apparatus_read") 399 (.ref 169),en P (Str.ofString "LIKE") 403 (.int 0 402),en P (Str.ofString "PRICE_PLACES") 422 (.ref 170),en P (Str.ofString "skip_fits") 431 (.ref 177),en P (Str.ofString "step_fits") 442 (.ref 184),en P (Str.ofString "words_done") 450 (.ref 191),en P (Str.ofString "words_written") 461 (.ref 198),en P (Str.ofString "step_after") 471 (.ref 205),en P (Str.ofString "step_price") 482 (.ref 212),en P (Str.ofString "swap_writes") 494 (.ref 219),en P (Str.ofString "skip_lengths") 500 (.ref 224),en P (Str.ofString "knot_ways") 506 (.ref 229),en P (Str.ofString "empty_table") 512 (.ref 234),en P (Str.ofString "table_told") 518 (.ref 239),en P (Str.ofString "rest_table") 524 (.ref 244),en P (Str.ofString "cheapest_ways") 542 (.ref 251),en P (Str.ofString "first_cheapest") 556 (.ref 258),en P (Str.ofString "GAP_KINDS") 561 (.ref 259),en P (Str.ofString "laid_words") 579 (.ref 266),en P (Str.ofString "entry_at") 587 (.ref 273),en P (Str.ofString "gap_columns") 593 (.ref 278),en P (Str.ofString "collated") 599 (.ref 283),en P (Str.ofString "column_kinds") 611 (.ref 290),en P (Str.ofString "row_back") 617 (.ref 295),en P (Str.ofString "_law_cell_at") 627 (.ref 302),en P (Str.ofString "_law_draw") 638 (.ref 309),en P (Str.ofString "_law_word_by") 648 (.ref 316),en P (Str.ofString "_law_pool") 654 (.ref 321),en P (Str.ofString "_law_row_by") 660 (.ref 326),en P (Str.ofString "_law_copy_by") 674 (.ref 333),en P (Str.ofString "_law_prices_by") 684 (.ref 340),en P (Str.ofString "_law_same") 690 (.ref 345),en P (Str.ofString "_law_scene") 703 (.ref 352),en P (Str.ofString "law") 709 (.ref 357)] 71 }:Obj)) ::
 (nat_lit 23,({ cls:=.type "dict",data:=.dict #[en P (Str.ofString "__module__") 196 (.str (Str.ofString "vellum.errors") 187),en P (Str.ofString "__firstlineno__") 200 (.int 2 199),en P (Str.ofString "__static_attributes__") 201 (.ref 22),en P (Str.ofString "__weakref__") 203 (.ref 25),en P (Str.ofString "__doc__") 204 (.none)] 3 }:Obj)) ::
 (nat_lit 24,({ cls:=.type "type",data:=.cls { name:=Str.ofString "VellumError",bases:=[.type "ValueError"],mro:=[.ref 24,.type "ValueError",.type "Exception",.type "BaseException",.type "object"],ns:=23,qualname:=Str.ofString "VellumError",subclasses:=[.ref 37,.ref 49] },slots:=#[Option.some (.ref 15),none,Option.some (.str (Str.ofString "VellumError") 189),Option.some (.str (Str.ofString "VellumError") 197),Option.some (.builtin "ValueError.__new__"),Option.some (.bool true)] }:Obj)) ::
 (nat_lit 25,({ cls:=.type "getset_descriptor",data:=.fields #[.str (Str.ofString "__weakref__") 202,.ref 24,.builtin "ExceptionGroup.__weakref__",.none] }:Obj)) ::
 (nat_lit 36,({ cls:=.type "dict",data:=.dict #[en P (Str.ofString "__module__") 214 (.str (Str.ofString "vellum.errors") 187),en P (Str.ofString "__firstlineno__") 218 (.int 4 217),en P (Str.ofString "__static_attributes__") 219 (.ref 35),en P (Str.ofString "__doc__") 220 (.none)] 2 }:Obj)) ::
 (nat_lit 37,({ cls:=.type "type",data:=.cls { name:=Str.ofString "NoSlips",bases:=[.ref 24],mro:=[.ref 37,.ref 24,.type "ValueError",.type "Exception",.type "BaseException",.type "object"],ns:=36,qualname:=Str.ofString "NoSlips" },slots:=#[Option.some (.ref 28),none,Option.some (.str (Str.ofString "NoSlips") 207),Option.some (.str (Str.ofString "NoSlips") 215),Option.some (.builtin "ValueError.__new__"),Option.some (.bool true)] }:Obj)) ::
 (nat_lit 48,({ cls:=.type "dict",data:=.dict #[en P (Str.ofString "__module__") 230 (.str (Str.ofString "vellum.errors") 187),en P (Str.ofString "__firstlineno__") 234 (.int 6 233),en P (Str.ofString "__static_attributes__") 235 (.ref 47),en P (Str.ofString "__doc__") 236 (.none)] 2 }:Obj)) ::
 (nat_lit 49,({ cls:=.type "type",data:=.cls { name:=Str.ofString "NoNotes",bases:=[.ref 24],mro:=[.ref 49,.ref 24,.type "ValueError",.type "Exception",.type "BaseException",.type "object"],ns:=48,qualname:=Str.ofString "NoNotes" },slots:=#[Option.some (.ref 40),none,Option.some (.str (Str.ofString "NoNotes") 223),Option.some (.str (Str.ofString "NoNotes") 231),Option.some (.builtin "ValueError.__new__"),Option.some (.bool true)] }:Obj)) ::
 (nat_lit 57,({ cls:=.type "code",data:=.fields #[.str (Str.ofString "readings_of") 241,.str (Str.ofString "readings_of") 242,.str (Str.ofString "/claim/cut.py") 243,.int 9 0,.int 1 0,.int 0 0,.int 0 0,.int 3 0,.ref 52,.bool true,.int 181 0,.ref 53,.none,.ref 54,.ref 55,.ref 56,.int 248 0,.int 9 0,.str (Str.ofString "/claim/cut.py") 249] }:Obj)) ::
 (nat_lit 58,(fn "readings_of" sRdf "vellum.notes" 239 57:Obj)) ::
 (nat_lit 62,(co "notes_of" 251 252 253 15 1 3 59 181 60 61 254 15 255:Obj)) ::
 (nat_lit 63,(fn "notes_of" sNof "vellum.notes" 239 62:Obj)) ::
 (nat_lit 69,({ cls:=.type "code",data:=.fields #[.str (Str.ofString "column_back") 257,.str (Str.ofString "column_back") 258,.str (Str.ofString "/claim/cut.py") 259,.int 18 0,.int 3 0,.int 0 0,.int 0 0,.int 3 0,.ref 64,.bool true,.int 181 0,.ref 65,.none,.ref 66,.ref 67,.ref 68,.int 267 0,.int 18 0,.str (Str.ofString "/claim/cut.py") 268] }:Obj)) ::
 (nat_lit 70,(fn "column_back" sCB "vellum.notes" 239 69:Obj)) ::
 (nat_lit 74,(co "collation_back" 270 271 272 28 3 3 71 181 72 73 273 28 274:Obj)) ::
 (nat_lit 75,(fn "collation_back" sOB "vellum.notes" 239 74:Obj)) ::
 (nat_lit 79,(co "has_only" 286 287 288 42 2 3 76 181 77 78 289 42 290:Obj)) ::
 (nat_lit 80,(fn "has_only" sHas "vellum.words" 276 79:Obj)) ::
 (nat_lit 86,({ cls:=.type "code",data:=.fields #[.str (Str.ofString "is_word") 292,.str (Str.ofString "is_word") 293,.str (Str.ofString "/claim/cut.py") 294,.int 44 0,.int 1 0,.int 0 0,.int 0 0,.int 3 0,.ref 81,.bool true,.int 181 0,.ref 82,.none,.ref 83,.ref 84,.ref 85,.int 296 0,.int 44 0,.str (Str.ofString "/claim/cut.py") 297] }:Obj)) ::
 (nat_lit 87,(fn "is_word" sIsW "vellum.words" 276 86:Obj)) ::
 (nat_lit 91,(co "looks_alike" 299 300 301 46 2 3 88 181 89 90 302 46 303:Obj)) ::
 (nat_lit 92,(fn "looks_alike" sLooks "vellum.words" 276 91:Obj)) ::
 (nat_lit 98,({ cls:=.type "code",data:=.fields #[.str (Str.ofString "writes_number") 305,.str (Str.ofString "writes_number") 306,.str (Str.ofString "/claim/cut.py") 307,.int 51 0,.int 1 0,.int 0 0,.int 0 0,.int 3 0,.ref 93,.bool true,.int 181 0,.ref 94,.none,.ref 95,.ref 96,.ref 97,.int 309 0,.int 51 0,.str (Str.ofString "/claim/cut.py") 310] }:Obj)) ::
 (nat_lit 99,(fn "writes_number" sWr "vellum.words" 276 98:Obj)) ::
 (nat_lit 105,({ cls:=.type "code",data:=.fields #[.str (Str.ofString "number_of") 312,.str (Str.ofString "number_of") 313,.str (Str.ofString "/claim/cut.py") 314,.int 55 0,.int 2 0,.int 0 0,.int 0 0,.int 3 0,.ref 100,.bool true,.int 181 0,.ref 101,.none,.ref 102,.ref 103,.ref 104,.int 318 0,.int 55 0,.str (Str.ofString "/claim/cut.py") 319] }:Obj)) ::
 (nat_lit 106,(fn "number_of" sNum "vellum.words" 276 105:Obj)) ::
 (nat_lit 112,({ cls:=.type "code",data:=.fields #[.str (Str.ofString "entry_written") 327,.str (Str.ofString "entry_written") 328,.str (Str.ofString "/claim/cut.py") 329,.int 63 0,.int 1 0,.int 0 0,.int 0 0,.int 3 0,.ref 107,.bool true,.int 181 0,.ref 108,.none,.ref 109,.ref 110,.ref 111,.int 331 0,.int 63 0,.str (Str.ofString "/claim/cut.py") 332] }:Obj)) ::
 (nat_lit 113,(fn "entry_written" sEW "vellum.notetext" 321 112:Obj)) ::
 (nat_lit 117,(co "reading_written" 334 335 336 65 2 3 114 181 115 116 337 65 338:Obj)) ::
 (nat_lit 118,(fn "reading_written" sRW "vellum.notetext" 321 117:Obj)) ::
 (nat_lit 122,(co "note_written" 340 341 342 67 2 3 119 181 120 121 343 67 344:Obj)) ::
 (nat_lit 123,(fn "note_written" sNW "vellum.notetext" 321 122:Obj)) ::
 (nat_lit 127,(co "apparatus_written" 346 347 348 69 2 3 124 181 125 126 349 69 350:Obj)) ::
 (nat_lit 128,(fn "apparatus_written" sAW "vellum.notetext" 321 127:Obj)) ::
 (nat_lit 134,({ cls:=.type "code",data:=.fields #[.str (Str.ofString "entry_read") 352,.str (Str.ofString "entry_read") 353,.str (Str.ofString "/claim/cut.py") 354,.int 73 0,.int 1 0,.int 0 0,.int 0 0,.int 3 0,.ref 129,.bool true,.int 181 0,.ref 130,.none,.ref 131,.ref 132,.ref 133,.int 356 0,.int 73 0,.str (Str.ofString "/claim/cut.py") 357] }:Obj)) ::
 (nat_lit 135,(fn "entry_read" sER "vellum.notetext" 321 134:Obj)) ::
 (nat_lit 139,(co "entries_read" 359 360 361 79 1 3 136 181 137 138 362 79 363:Obj)) ::
 (nat_lit 140,(fn "entries_read" sESR "vellum.notetext" 321 139:Obj)) ::
 (nat_lit 146,({ cls:=.type "code",data:=.fields #[.str (Str.ofString "number_read") 365,.str (Str.ofString "number_read") 366,.str (Str.ofString "/claim/cut.py") 367,.int 83 0,.int 1 0,.int 0 0,.int 0 0,.int 3 0,.ref 141,.bool true,.int 181 0,.ref 142,.none,.ref 143,.ref 144,.ref 145,.int 370 0,.int 83 0,.str (Str.ofString "/claim/cut.py") 371] }:Obj)) ::
 (nat_lit 147,(fn "number_read" sNR "vellum.notetext" 321 146:Obj)) ::
 (nat_lit 153,({ cls:=.type "code",data:=.fields #[.str (Str.ofString "parts_read") 373,.str (Str.ofString "parts_read") 374,.str (Str.ofString "/claim/cut.py") 375,.int 88 0,.int 2 0,.int 0 0,.int 0 0,.int 3 0,.ref 148,.bool true,.int 181 0,.ref 149,.none,.ref 150,.ref 151,.ref 152,.int 379 0,.int 88 0,.str (Str.ofString "/claim/cut.py") 380] }:Obj)) ::
 (nat_lit 154,(fn "parts_read" sPR "vellum.notetext" 321 153:Obj)) ::
 (nat_lit 158,(co "reading_read" 382 383 384 93 1 3 155 181 156 157 385 93 386:Obj)) ::
 (nat_lit 159,(fn "reading_read" sRR "vellum.notetext" 321 158:Obj)) ::
 (nat_lit 163,(co "note_read" 388 389 390 96 1 3 160 181 161 162 391 96 392:Obj)) ::
 (nat_lit 164,(fn "note_read" sNTR "vellum.notetext" 321 163:Obj)) ::
 (nat_lit 168,(co "apparatus_read" 394 395 396 99 1 3 165 181 166 167 397 99 398:Obj)) ::
 (nat_lit 169,(fn "apparatus_read" sAR "vellum.notetext" 321 168:Obj)) ::
 (nat_lit 170,({ cls:=.type "dict",data:=.dict #[en P (Str.ofString "turn") 404 (.int 1 405),en P (Str.ofString "lose") 406 (.int 2 407),en P (Str.ofString "add") 408 (.int 3 409),en P (Str.ofString "twice") 410 (.int 4 411),en P (Str.ofString "swap") 412 (.int 5 413),en P (Str.ofString "skip") 414 (.int 6 415)] 6 }:Obj)) ::
 (nat_lit 176,({ cls:=.type "code",data:=.fields #[.str (Str.ofString "skip_fits") 423,.str (Str.ofString "skip_fits") 424,.str (Str.ofString "/claim/cut.py") 425,.int 108 0,.int 3 0,.int 0 0,.int 0 0,.int 3 0,.ref 171,.bool true,.int 181 0,.ref 172,.none,.ref 173,.ref 174,.ref 175,.int 429 0,.int 108 0,.str (Str.ofString "/claim/cut.py") 430] }:Obj)) ::
 (nat_lit 177,(fn "skip_fits" sSkF "vellum.slips" 400 176:Obj)) ::
 (nat_lit 183,({ cls:=.type "code",data:=.fields #[.str (Str.ofString "step_fits") 432,.str (Str.ofString "step_fits") 433,.str (Str.ofString "/claim/cut.py") 434,.int 112 0,.int 4 0,.int 0 0,.int 0 0,.int 3 0,.ref 178,.bool true,.int 181 0,.ref 179,.none,.ref 180,.ref 181,.ref 182,.int 440 0,.int 112 0,.str (Str.ofString "/claim/cut.py") 441] }:Obj)) ::
 (nat_lit 184,(fn "step_fits" sFits "vellum.slips" 400 183:Obj)) ::
 (nat_lit 190,({ cls:=.type "code",data:=.fields #[.str (Str.ofString "words_done") 443,.str (Str.ofString "words_done") 444,.str (Str.ofString "/claim/cut.py") 445,.int 125 0,.int 1 0,.int 0 0,.int 0 0,.int 3 0,.ref 185,.bool true,.int 181 0,.ref 186,.none,.ref 187,.ref 188,.ref 189,.int 448 0,.int 125 0,.str (Str.ofString "/claim/cut.py") 449] }:Obj)) ::
 (nat_lit 191,(fn "words_done" sWd "vellum.slips" 400 190:Obj)) ::
 (nat_lit 197,({ cls:=.type "code",data:=.fields #[.str (Str.ofString "words_written") 451,.str (Str.ofString "words_written") 452,.str (Str.ofString "/claim/cut.py") 453,.int 134 0,.int 4 0,.int 0 0,.int 0 0,.int 3 0,.ref 192,.bool true,.int 181 0,.ref 193,.none,.ref 194,.ref 195,.ref 196,.int 459 0,.int 134 0,.str (Str.ofString "/claim/cut.py") 460] }:Obj)) ::
 (nat_lit 198,(fn "words_written" sWw "vellum.slips" 400 197:Obj)) ::
 (nat_lit 204,({ cls:=.type "code",data:=.fields #[.str (Str.ofString "step_after") 462,.str (Str.ofString "step_after") 463,.str (Str.ofString "/claim/cut.py") 464,.int 145 0,.int 4 0,.int 0 0,.int 0 0,.int 3 0,.ref 199,.bool true,.int 181 0,.ref 200,.none,.ref 201,.ref 202,.ref 203,.int 469 0,.int 145 0,.str (Str.ofString "/claim/cut.py") 470] }:Obj)) ::
 (nat_lit 205,(fn "step_after" sAfter "vellum.slips" 400 204:Obj)) ::
 (nat_lit 211,({ cls:=.type "code",data:=.fields #[.str (Str.ofString "step_price") 472,.str (Str.ofString "step_price") 473,.str (Str.ofString "/claim/cut.py") 474,.int 149 0,.int 4 0,.int 0 0,.int 0 0,.int 3 0,.ref 206,.bool true,.int 181 0,.ref 207,.none,.ref 208,.ref 209,.ref 210,.int 480 0,.int 149 0,.str (Str.ofString "/claim/cut.py") 481] }:Obj)) ::
 (nat_lit 212,(fn "step_price" sPrice "vellum.slips" 400 211:Obj)) ::
 (nat_lit 218,({ cls:=.type "code",data:=.fields #[.str (Str.ofString "swap_writes") 485,.str (Str.ofString "swap_writes") 486,.str (Str.ofString "/claim/cut.py") 487,.int 157 0,.int 4 0,.int 0 0,.int 0 0,.int 3 0,.ref 213,.bool true,.int 181 0,.ref 214,.none,.ref 215,.ref 216,.ref 217,.int 492 0,.int 157 0,.str (Str.ofString "/claim/cut.py") 493] }:Obj)) ::
 (nat_lit 219,(fn "swap_writes" sSwW "vellum.grid" 483 218:Obj)) ::
 (nat_lit 223,(co "skip_lengths" 495 496 497 161 2 3 220 181 221 222 498 161 499:Obj)) ::
 (nat_lit 224,(fn "skip_lengths" sSkL "vellum.grid" 483 223:Obj)) ::
 (nat_lit 228,(co "knot_ways" 501 502 503 165 4 3 225 181 226 227 504 165 505:Obj)) ::
 (nat_lit 229,(fn "knot_ways" sWays "vellum.grid" 483 228:Obj)) ::
 (nat_lit 233,(co "empty_table" 507 508 509 180 2 3 230 181 231 232 510 180 511:Obj)) ::
 (nat_lit 234,(fn "empty_table" sEmp "vellum.grid" 483 233:Obj)) ::
 (nat_lit 238,(co "table_told" 513 514 515 182 1 3 235 181 236 237 516 182 517:Obj)) ::
 (nat_lit 239,(fn "table_told" sTld "vellum.grid" 483 238:Obj)) ::
 (nat_lit 243,(co "rest_table" 519 520 521 184 3 3 240 181 241 242 522 184 523:Obj)) ::
 (nat_lit 244,(fn "rest_table" sRtab "vellum.grid" 483 243:Obj)) ::
 (nat_lit 250,({ cls:=.type "code",data:=.fields #[.str (Str.ofString "cheapest_ways") 527,.str (Str.ofString "cheapest_ways") 528,.str (Str.ofString "/claim/cut.py") 529,.int 193 0,.int 6 0,.int 0 0,.int 0 0,.int 3 0,.ref 245,.bool true,.int 181 0,.ref 246,.none,.ref 247,.ref 248,.ref 249,.int 540 0,.int 193 0,.str (Str.ofString "/claim/cut.py") 541] }:Obj)) ::
 (nat_lit 251,(fn "cheapest_ways" sCW "vellum.least" 525 250:Obj)) ::
 (nat_lit 257,({ cls:=.type "code",data:=.fields #[.str (Str.ofString "first_cheapest") 543,.str (Str.ofString "first_cheapest") 544,.str (Str.ofString "/claim/cut.py") 545,.int 199 0,.int 3 0,.int 0 0,.int 0 0,.int 3 0,.ref 252,.bool true,.int 181 0,.ref 253,.none,.ref 254,.ref 255,.ref 256,.int 554 0,.int 199 0,.str (Str.ofString "/claim/cut.py") 555] }:Obj)) ::
 (nat_lit 258,(fn "first_cheapest" sFC "vellum.least" 525 257:Obj)) ::
 (nat_lit 259,({ cls:=.type "tuple",data:=.seq #[.str (Str.ofString "add") 559,.str (Str.ofString "twice") 560] }:Obj)) ::
 (nat_lit 265,({ cls:=.type "code",data:=.fields #[.str (Str.ofString "laid_words") 562,.str (Str.ofString "laid_words") 563,.str (Str.ofString "/claim/cut.py") 564,.int 212 0,.int 3 0,.int 0 0,.int 0 0,.int 3 0,.ref 260,.bool true,.int 181 0,.ref 261,.none,.ref 262,.ref 263,.ref 264,.int 577 0,.int 212 0,.str (Str.ofString "/claim/cut.py") 578] }:Obj)) ::
 (nat_lit 266,(fn "laid_words" sLaid "vellum.collate" 557 265:Obj)) ::
 (nat_lit 272,({ cls:=.type "code",data:=.fields #[.str (Str.ofString "entry_at") 580,.str (Str.ofString "entry_at") 581,.str (Str.ofString "/claim/cut.py") 582,.int 228 0,.int 2 0,.int 0 0,.int 0 0,.int 3 0,.ref 267,.bool true,.int 181 0,.ref 268,.none,.ref 269,.ref 270,.ref 271,.int 585 0,.int 228 0,.str (Str.ofString "/claim/cut.py") 586] }:Obj)) ::
 (nat_lit 273,(fn "entry_at" sEntry "vellum.collate" 557 272:Obj)) ::
 (nat_lit 277,(co "gap_columns" 588 589 590 230 1 3 274 181 275 276 591 230 592:Obj)) ::
 (nat_lit 278,(fn "gap_columns" sGapC "vellum.collate" 557 277:Obj)) ::
 (nat_lit 282,(co "collated" 594 595 596 233 3 3 279 181 280 281 597 233 598:Obj)) ::
 (nat_lit 283,(fn "collated" sColl "vellum.collate" 557 282:Obj)) ::
 (nat_lit 289,({ cls:=.type "code",data:=.fields #[.str (Str.ofString "column_kinds") 600,.str (Str.ofString "column_kinds") 601,.str (Str.ofString "/claim/cut.py") 602,.int 241 0,.int 3 0,.int 0 0,.int 0 0,.int 3 0,.ref 284,.bool true,.int 181 0,.ref 285,.none,.ref 286,.ref 287,.ref 288,.int 609 0,.int 241 0,.str (Str.ofString "/claim/cut.py") 610] }:Obj)) ::
 (nat_lit 290,(fn "column_kinds" sColK "vellum.collate" 557 289:Obj)) ::
 (nat_lit 294,(co "row_back" 612 613 614 251 2 3 291 181 292 293 615 251 616:Obj)) ::
 (nat_lit 295,(fn "row_back" sBack "vellum.collate" 557 294:Obj)) ::
 (nat_lit 301,({ cls:=.type "code",data:=.fields #[.str (Str.ofString "_law_cell_at") 620,.str (Str.ofString "_law_cell_at") 621,.str (Str.ofString "/claim/cut.py") 622,.int 254 0,.int 2 0,.int 0 0,.int 0 0,.int 3 0,.ref 296,.bool true,.int 181 0,.ref 297,.none,.ref 298,.ref 299,.ref 300,.int 625 0,.int 254 0,.str (Str.ofString "/claim/cut.py") 626] }:Obj)) ::
 (nat_lit 302,(fn "_law_cell_at" sCell "law_vellum_k63_whole_rows_to_text_and_back" 618 301:Obj)) ::
 (nat_lit 308,({ cls:=.type "code",data:=.fields #[.str (Str.ofString "_law_draw") 628,.str (Str.ofString "_law_draw") 629,.str (Str.ofString "/claim/cut.py") 630,.int 258 0,.int 3 0,.int 0 0,.int 0 0,.int 3 0,.ref 303,.bool true,.int 181 0,.ref 304,.none,.ref 305,.ref 306,.ref 307,.int 636 0,.int 258 0,.str (Str.ofString "/claim/cut.py") 637] }:Obj)) ::
 (nat_lit 309,(fn "_law_draw" sDraw "law_vellum_k63_whole_rows_to_text_and_back" 618 308:Obj)) ::
 (nat_lit 315,({ cls:=.type "code",data:=.fields #[.str (Str.ofString "_law_word_by") 639,.str (Str.ofString "_law_word_by") 640,.str (Str.ofString "/claim/cut.py") 641,.int 262 0,.int 2 0,.int 0 0,.int 0 0,.int 3 0,.ref 310,.bool true,.int 181 0,.ref 311,.none,.ref 312,.ref 313,.ref 314,.int 646 0,.int 262 0,.str (Str.ofString "/claim/cut.py") 647] }:Obj)) ::
 (nat_lit 316,(fn "_law_word_by" sWordBy "law_vellum_k63_whole_rows_to_text_and_back" 618 315:Obj)) ::
 (nat_lit 320,(co "_law_pool" 649 650 651 267 1 3 317 181 318 319 652 267 653:Obj)) ::
 (nat_lit 321,(fn "_law_pool" sPool "law_vellum_k63_whole_rows_to_text_and_back" 618 320:Obj)) ::
 (nat_lit 325,(co "_law_row_by" 655 656 657 272 3 3 322 181 323 324 658 272 659:Obj)) ::
 (nat_lit 326,(fn "_law_row_by" sRowBy "law_vellum_k63_whole_rows_to_text_and_back" 618 325:Obj)) ::
 (nat_lit 332,({ cls:=.type "code",data:=.fields #[.str (Str.ofString "_law_copy_by") 661,.str (Str.ofString "_law_copy_by") 662,.str (Str.ofString "/claim/cut.py") 663,.int 274 0,.int 4 0,.int 0 0,.int 0 0,.int 3 0,.ref 327,.bool true,.int 181 0,.ref 328,.none,.ref 329,.ref 330,.ref 331,.int 672 0,.int 274 0,.str (Str.ofString "/claim/cut.py") 673] }:Obj)) ::
 (nat_lit 333,(fn "_law_copy_by" sCopyBy "law_vellum_k63_whole_rows_to_text_and_back" 618 332:Obj)) ::
 (nat_lit 339,({ cls:=.type "code",data:=.fields #[.str (Str.ofString "_law_prices_by") 675,.str (Str.ofString "_law_prices_by") 676,.str (Str.ofString "/claim/cut.py") 677,.int 290 0,.int 1 0,.int 0 0,.int 0 0,.int 3 0,.ref 334,.bool true,.int 181 0,.ref 335,.none,.ref 336,.ref 337,.ref 338,.int 682 0,.int 290 0,.str (Str.ofString "/claim/cut.py") 683] }:Obj)) ::
 (nat_lit 340,(fn "_law_prices_by" sPricesBy "law_vellum_k63_whole_rows_to_text_and_back" 618 339:Obj)) ::
 (nat_lit 344,(co "_law_same" 685 686 687 296 2 3 341 181 342 343 688 296 689:Obj)) ::
 (nat_lit 345,(fn "_law_same" sSame "law_vellum_k63_whole_rows_to_text_and_back" 618 344:Obj)) ::
 (nat_lit 351,({ cls:=.type "code",data:=.fields #[.str (Str.ofString "_law_scene") 691,.str (Str.ofString "_law_scene") 692,.str (Str.ofString "/claim/cut.py") 693,.int 306 0,.int 2 0,.int 0 0,.int 0 0,.int 3 0,.ref 346,.bool true,.int 181 0,.ref 347,.none,.ref 348,.ref 349,.ref 350,.int 701 0,.int 306 0,.str (Str.ofString "/claim/cut.py") 702] }:Obj)) ::
 (nat_lit 352,(fn "_law_scene" sScene "law_vellum_k63_whole_rows_to_text_and_back" 618 351:Obj)) ::
 (nat_lit 356,(co "law" 704 705 706 316 1 3 353 181 354 355 707 316 708:Obj)) ::
 (nat_lit 357,(fn "law" sLaw "law_vellum_k63_whole_rows_to_text_and_back" 618 356:Obj)) ::
 []
noncomputable def view:Program:={ PySem.Challenge.pw_vellum_k63_whole_rows_to_text_and_back with main:={ (PySem.Challenge.pw_vellum_k63_whole_rows_to_text_and_back).main with body:=[top 70] } }
abbrev ad:List Addr:=nat_lit 2 :: nat_lit 3 :: nat_lit 23 :: nat_lit 24 :: nat_lit 25 :: nat_lit 36 :: nat_lit 37 :: nat_lit 48 :: nat_lit 49 :: nat_lit 57 :: nat_lit 58 :: nat_lit 62 :: nat_lit 63 :: nat_lit 69 :: nat_lit 70 :: nat_lit 74 :: nat_lit 75 :: nat_lit 79 :: nat_lit 80 :: nat_lit 86 :: nat_lit 87 :: nat_lit 91 :: nat_lit 92 :: nat_lit 98 :: nat_lit 99 :: nat_lit 105 :: nat_lit 106 :: nat_lit 112 :: nat_lit 113 :: nat_lit 117 :: nat_lit 118 :: nat_lit 122 :: nat_lit 123 :: nat_lit 127 :: nat_lit 128 :: nat_lit 134 :: nat_lit 135 :: nat_lit 139 :: nat_lit 140 :: nat_lit 146 :: nat_lit 147 :: nat_lit 153 :: nat_lit 154 :: nat_lit 158 :: nat_lit 159 :: nat_lit 163 :: nat_lit 164 :: nat_lit 168 :: nat_lit 169 :: nat_lit 170 :: nat_lit 176 :: nat_lit 177 :: nat_lit 183 :: nat_lit 184 :: nat_lit 190 :: nat_lit 191 :: nat_lit 197 :: nat_lit 198 :: nat_lit 204 :: nat_lit 205 :: nat_lit 211 :: nat_lit 212 :: nat_lit 218 :: nat_lit 219 :: nat_lit 223 :: nat_lit 224 :: nat_lit 228 :: nat_lit 229 :: nat_lit 233 :: nat_lit 234 :: nat_lit 238 :: nat_lit 239 :: nat_lit 243 :: nat_lit 244 :: nat_lit 250 :: nat_lit 251 :: nat_lit 257 :: nat_lit 258 :: nat_lit 259 :: nat_lit 265 :: nat_lit 266 :: nat_lit 272 :: nat_lit 273 :: nat_lit 277 :: nat_lit 278 :: nat_lit 282 :: nat_lit 283 :: nat_lit 289 :: nat_lit 290 :: nat_lit 294 :: nat_lit 295 :: nat_lit 301 :: nat_lit 302 :: nat_lit 308 :: nat_lit 309 :: nat_lit 315 :: nat_lit 316 :: nat_lit 320 :: nat_lit 321 :: nat_lit 325 :: nat_lit 326 :: nat_lit 332 :: nat_lit 333 :: nat_lit 339 :: nat_lit 340 :: nat_lit 344 :: nat_lit 345 :: nat_lit 351 :: nat_lit 352 :: nat_lit 356 :: nat_lit 357 :: []
theorem ad_hp:∀ P,ad=(hp P).map (·.1):=fun _=>by kernel_rfl
theorem left_false:∀ w:World,(fun w=>(PySem.W.openEnds PySem.treeTable PySem.Challenge.pw_vellum_k63_whole_rows_to_text_and_back w 4808).map (fun s=>(PySem.W.openSeen K63.view [Str.ofString "VellumError",Str.ofString "NoSlips",Str.ofString "NoNotes",Str.ofString "readings_of",Str.ofString "notes_of",Str.ofString "column_back",Str.ofString "collation_back",Str.ofString "LETTERS",Str.ofString "FIGURES",Str.ofString "MOST_LETTERS",Str.ofString "MOST_PRICE",Str.ofString "has_only",Str.ofString "is_word",Str.ofString "looks_alike",Str.ofString "writes_number",Str.ofString "number_of",Str.ofString "MOST_ROWS",Str.ofString "NO_ENTRY",Str.ofString "entry_written",Str.ofString "reading_written",Str.ofString "note_written",Str.ofString "apparatus_written",Str.ofString "entry_read",Str.ofString "entries_read",Str.ofString "number_read",Str.ofString "parts_read",Str.ofString "reading_read",Str.ofString "note_read",Str.ofString "apparatus_read",Str.ofString "LIKE",Str.ofString "PRICE_PLACES",Str.ofString "skip_fits",Str.ofString "step_fits",Str.ofString "words_done",Str.ofString "words_written",Str.ofString "step_after",Str.ofString "step_price",Str.ofString "swap_writes",Str.ofString "skip_lengths",Str.ofString "knot_ways",Str.ofString "empty_table",Str.ofString "table_told",Str.ofString "rest_table",Str.ofString "cheapest_ways",Str.ofString "first_cheapest",Str.ofString "GAP_KINDS",Str.ofString "laid_words",Str.ofString "entry_at",Str.ofString "gap_columns",Str.ofString "collated",Str.ofString "column_kinds",Str.ofString "row_back",Str.ofString "_law_cell_at",Str.ofString "_law_draw",Str.ofString "_law_word_by",Str.ofString "_law_pool",Str.ofString "_law_row_by",Str.ofString "_law_copy_by",Str.ofString "_law_prices_by",Str.ofString "_law_same",Str.ofString "_law_scene"] (importedModules (PySem.Challenge.pw_vellum_k63_whole_rows_to_text_and_back).main.body) (fun s=>PySem.W.xlAt K63.view [] s && PySem.W.recOk (PySem.W.RowW.records (PySem.W.OpenRow.toRowW PySem.Challenge.rw_vellum_k63_whole_rows_to_text_and_back.row)) s) true s,PySem.W.Hook.obs (PySem.W.kHook K63.hp K63.ad K63.ad_hp) s))=some (PySem.W.openGood K63.view [Str.ofString "VellumError",Str.ofString "NoSlips",Str.ofString "NoNotes",Str.ofString "readings_of",Str.ofString "notes_of",Str.ofString "column_back",Str.ofString "collation_back",Str.ofString "LETTERS",Str.ofString "FIGURES",Str.ofString "MOST_LETTERS",Str.ofString "MOST_PRICE",Str.ofString "has_only",Str.ofString "is_word",Str.ofString "looks_alike",Str.ofString "writes_number",Str.ofString "number_of",Str.ofString "MOST_ROWS",Str.ofString "NO_ENTRY",Str.ofString "entry_written",Str.ofString "reading_written",Str.ofString "note_written",Str.ofString "apparatus_written",Str.ofString "entry_read",Str.ofString "entries_read",Str.ofString "number_read",Str.ofString "parts_read",Str.ofString "reading_read",Str.ofString "note_read",Str.ofString "apparatus_read",Str.ofString "LIKE",Str.ofString "PRICE_PLACES",Str.ofString "skip_fits",Str.ofString "step_fits",Str.ofString "words_done",Str.ofString "words_written",Str.ofString "step_after",Str.ofString "step_price",Str.ofString "swap_writes",Str.ofString "skip_lengths",Str.ofString "knot_ways",Str.ofString "empty_table",Str.ofString "table_told",Str.ofString "rest_table",Str.ofString "cheapest_ways",Str.ofString "first_cheapest",Str.ofString "GAP_KINDS",Str.ofString "laid_words",Str.ofString "entry_at",Str.ofString "gap_columns",Str.ofString "collated",Str.ofString "column_kinds",Str.ofString "row_back",Str.ofString "_law_cell_at",Str.ofString "_law_draw",Str.ofString "_law_word_by",Str.ofString "_law_pool",Str.ofString "_law_row_by",Str.ofString "_law_copy_by",Str.ofString "_law_prices_by",Str.ofString "_law_same",Str.ofString "_law_scene"],PySem.W.Hook.val (PySem.W.kHook K63.hp K63.ad K63.ad_hp) w)) (w.withFollow "special-get-raises" false):=fun w=>by kernel_rfl
theorem left_true:∀ w:World,(fun w=>(PySem.W.openEnds PySem.treeTable PySem.Challenge.pw_vellum_k63_whole_rows_to_text_and_back w 4808).map (fun s=>(PySem.W.openSeen K63.view [Str.ofString "VellumError",Str.ofString "NoSlips",Str.ofString "NoNotes",Str.ofString "readings_of",Str.ofString "notes_of",Str.ofString "column_back",Str.ofString "collation_back",Str.ofString "LETTERS",Str.ofString "FIGURES",Str.ofString "MOST_LETTERS",Str.ofString "MOST_PRICE",Str.ofString "has_only",Str.ofString "is_word",Str.ofString "looks_alike",Str.ofString "writes_number",Str.ofString "number_of",Str.ofString "MOST_ROWS",Str.ofString "NO_ENTRY",Str.ofString "entry_written",Str.ofString "reading_written",Str.ofString "note_written",Str.ofString "apparatus_written",Str.ofString "entry_read",Str.ofString "entries_read",Str.ofString "number_read",Str.ofString "parts_read",Str.ofString "reading_read",Str.ofString "note_read",Str.ofString "apparatus_read",Str.ofString "LIKE",Str.ofString "PRICE_PLACES",Str.ofString "skip_fits",Str.ofString "step_fits",Str.ofString "words_done",Str.ofString "words_written",Str.ofString "step_after",Str.ofString "step_price",Str.ofString "swap_writes",Str.ofString "skip_lengths",Str.ofString "knot_ways",Str.ofString "empty_table",Str.ofString "table_told",Str.ofString "rest_table",Str.ofString "cheapest_ways",Str.ofString "first_cheapest",Str.ofString "GAP_KINDS",Str.ofString "laid_words",Str.ofString "entry_at",Str.ofString "gap_columns",Str.ofString "collated",Str.ofString "column_kinds",Str.ofString "row_back",Str.ofString "_law_cell_at",Str.ofString "_law_draw",Str.ofString "_law_word_by",Str.ofString "_law_pool",Str.ofString "_law_row_by",Str.ofString "_law_copy_by",Str.ofString "_law_prices_by",Str.ofString "_law_same",Str.ofString "_law_scene"] (importedModules (PySem.Challenge.pw_vellum_k63_whole_rows_to_text_and_back).main.body) (fun s=>PySem.W.xlAt K63.view [] s && PySem.W.recOk (PySem.W.RowW.records (PySem.W.OpenRow.toRowW PySem.Challenge.rw_vellum_k63_whole_rows_to_text_and_back.row)) s) true s,PySem.W.Hook.obs (PySem.W.kHook K63.hp K63.ad K63.ad_hp) s))=some (PySem.W.openGood K63.view [Str.ofString "VellumError",Str.ofString "NoSlips",Str.ofString "NoNotes",Str.ofString "readings_of",Str.ofString "notes_of",Str.ofString "column_back",Str.ofString "collation_back",Str.ofString "LETTERS",Str.ofString "FIGURES",Str.ofString "MOST_LETTERS",Str.ofString "MOST_PRICE",Str.ofString "has_only",Str.ofString "is_word",Str.ofString "looks_alike",Str.ofString "writes_number",Str.ofString "number_of",Str.ofString "MOST_ROWS",Str.ofString "NO_ENTRY",Str.ofString "entry_written",Str.ofString "reading_written",Str.ofString "note_written",Str.ofString "apparatus_written",Str.ofString "entry_read",Str.ofString "entries_read",Str.ofString "number_read",Str.ofString "parts_read",Str.ofString "reading_read",Str.ofString "note_read",Str.ofString "apparatus_read",Str.ofString "LIKE",Str.ofString "PRICE_PLACES",Str.ofString "skip_fits",Str.ofString "step_fits",Str.ofString "words_done",Str.ofString "words_written",Str.ofString "step_after",Str.ofString "step_price",Str.ofString "swap_writes",Str.ofString "skip_lengths",Str.ofString "knot_ways",Str.ofString "empty_table",Str.ofString "table_told",Str.ofString "rest_table",Str.ofString "cheapest_ways",Str.ofString "first_cheapest",Str.ofString "GAP_KINDS",Str.ofString "laid_words",Str.ofString "entry_at",Str.ofString "gap_columns",Str.ofString "collated",Str.ofString "column_kinds",Str.ofString "row_back",Str.ofString "_law_cell_at",Str.ofString "_law_draw",Str.ofString "_law_word_by",Str.ofString "_law_pool",Str.ofString "_law_row_by",Str.ofString "_law_copy_by",Str.ofString "_law_prices_by",Str.ofString "_law_same",Str.ofString "_law_scene"],PySem.W.Hook.val (PySem.W.kHook K63.hp K63.ad K63.ad_hp) w)) (w.withFollow "special-get-raises" true):=fun w=>by kernel_rfl
theorem left:PySem.W.LeftO PySem.Challenge.pw_vellum_k63_whole_rows_to_text_and_back view [Str.ofString "VellumError",Str.ofString "NoSlips",Str.ofString "NoNotes",Str.ofString "readings_of",Str.ofString "notes_of",Str.ofString "column_back",Str.ofString "collation_back",Str.ofString "LETTERS",Str.ofString "FIGURES",Str.ofString "MOST_LETTERS",Str.ofString "MOST_PRICE",Str.ofString "has_only",Str.ofString "is_word",Str.ofString "looks_alike",Str.ofString "writes_number",Str.ofString "number_of",Str.ofString "MOST_ROWS",Str.ofString "NO_ENTRY",Str.ofString "entry_written",Str.ofString "reading_written",Str.ofString "note_written",Str.ofString "apparatus_written",Str.ofString "entry_read",Str.ofString "entries_read",Str.ofString "number_read",Str.ofString "parts_read",Str.ofString "reading_read",Str.ofString "note_read",Str.ofString "apparatus_read",Str.ofString "LIKE",Str.ofString "PRICE_PLACES",Str.ofString "skip_fits",Str.ofString "step_fits",Str.ofString "words_done",Str.ofString "words_written",Str.ofString "step_after",Str.ofString "step_price",Str.ofString "swap_writes",Str.ofString "skip_lengths",Str.ofString "knot_ways",Str.ofString "empty_table",Str.ofString "table_told",Str.ofString "rest_table",Str.ofString "cheapest_ways",Str.ofString "first_cheapest",Str.ofString "GAP_KINDS",Str.ofString "laid_words",Str.ofString "entry_at",Str.ofString "gap_columns",Str.ofString "collated",Str.ofString "column_kinds",Str.ofString "row_back",Str.ofString "_law_cell_at",Str.ofString "_law_draw",Str.ofString "_law_word_by",Str.ofString "_law_pool",Str.ofString "_law_row_by",Str.ofString "_law_copy_by",Str.ofString "_law_prices_by",Str.ofString "_law_same",Str.ofString "_law_scene"] (fun s=>PySem.W.xlAt K63.view [] s && PySem.W.recOk (PySem.W.RowW.records (PySem.W.OpenRow.toRowW PySem.Challenge.rw_vellum_k63_whole_rows_to_text_and_back.row)) s) (PySem.W.Hook.obs (PySem.W.kHook K63.hp K63.ad K63.ad_hp)) (PySem.W.Hook.val (PySem.W.kHook K63.hp K63.ad K63.ad_hp)) 4808:=
 PySem.W.byRow2 (P:=fun w=>(PySem.W.openEnds PySem.treeTable PySem.Challenge.pw_vellum_k63_whole_rows_to_text_and_back w 4808).map (fun s=>(PySem.W.openSeen K63.view [Str.ofString "VellumError",Str.ofString "NoSlips",Str.ofString "NoNotes",Str.ofString "readings_of",Str.ofString "notes_of",Str.ofString "column_back",Str.ofString "collation_back",Str.ofString "LETTERS",Str.ofString "FIGURES",Str.ofString "MOST_LETTERS",Str.ofString "MOST_PRICE",Str.ofString "has_only",Str.ofString "is_word",Str.ofString "looks_alike",Str.ofString "writes_number",Str.ofString "number_of",Str.ofString "MOST_ROWS",Str.ofString "NO_ENTRY",Str.ofString "entry_written",Str.ofString "reading_written",Str.ofString "note_written",Str.ofString "apparatus_written",Str.ofString "entry_read",Str.ofString "entries_read",Str.ofString "number_read",Str.ofString "parts_read",Str.ofString "reading_read",Str.ofString "note_read",Str.ofString "apparatus_read",Str.ofString "LIKE",Str.ofString "PRICE_PLACES",Str.ofString "skip_fits",Str.ofString "step_fits",Str.ofString "words_done",Str.ofString "words_written",Str.ofString "step_after",Str.ofString "step_price",Str.ofString "swap_writes",Str.ofString "skip_lengths",Str.ofString "knot_ways",Str.ofString "empty_table",Str.ofString "table_told",Str.ofString "rest_table",Str.ofString "cheapest_ways",Str.ofString "first_cheapest",Str.ofString "GAP_KINDS",Str.ofString "laid_words",Str.ofString "entry_at",Str.ofString "gap_columns",Str.ofString "collated",Str.ofString "column_kinds",Str.ofString "row_back",Str.ofString "_law_cell_at",Str.ofString "_law_draw",Str.ofString "_law_word_by",Str.ofString "_law_pool",Str.ofString "_law_row_by",Str.ofString "_law_copy_by",Str.ofString "_law_prices_by",Str.ofString "_law_same",Str.ofString "_law_scene"] (importedModules (PySem.Challenge.pw_vellum_k63_whole_rows_to_text_and_back).main.body) (fun s=>PySem.W.xlAt K63.view [] s && PySem.W.recOk (PySem.W.RowW.records (PySem.W.OpenRow.toRowW PySem.Challenge.rw_vellum_k63_whole_rows_to_text_and_back.row)) s) true s,PySem.W.Hook.obs (PySem.W.kHook K63.hp K63.ad K63.ad_hp) s))=some (PySem.W.openGood K63.view [Str.ofString "VellumError",Str.ofString "NoSlips",Str.ofString "NoNotes",Str.ofString "readings_of",Str.ofString "notes_of",Str.ofString "column_back",Str.ofString "collation_back",Str.ofString "LETTERS",Str.ofString "FIGURES",Str.ofString "MOST_LETTERS",Str.ofString "MOST_PRICE",Str.ofString "has_only",Str.ofString "is_word",Str.ofString "looks_alike",Str.ofString "writes_number",Str.ofString "number_of",Str.ofString "MOST_ROWS",Str.ofString "NO_ENTRY",Str.ofString "entry_written",Str.ofString "reading_written",Str.ofString "note_written",Str.ofString "apparatus_written",Str.ofString "entry_read",Str.ofString "entries_read",Str.ofString "number_read",Str.ofString "parts_read",Str.ofString "reading_read",Str.ofString "note_read",Str.ofString "apparatus_read",Str.ofString "LIKE",Str.ofString "PRICE_PLACES",Str.ofString "skip_fits",Str.ofString "step_fits",Str.ofString "words_done",Str.ofString "words_written",Str.ofString "step_after",Str.ofString "step_price",Str.ofString "swap_writes",Str.ofString "skip_lengths",Str.ofString "knot_ways",Str.ofString "empty_table",Str.ofString "table_told",Str.ofString "rest_table",Str.ofString "cheapest_ways",Str.ofString "first_cheapest",Str.ofString "GAP_KINDS",Str.ofString "laid_words",Str.ofString "entry_at",Str.ofString "gap_columns",Str.ofString "collated",Str.ofString "column_kinds",Str.ofString "row_back",Str.ofString "_law_cell_at",Str.ofString "_law_draw",Str.ofString "_law_word_by",Str.ofString "_law_pool",Str.ofString "_law_row_by",Str.ofString "_law_copy_by",Str.ofString "_law_prices_by",Str.ofString "_law_same",Str.ofString "_law_scene"],PySem.W.Hook.val (PySem.W.kHook K63.hp K63.ad K63.ad_hp) w)) "special-get-raises" left_false left_true
theorem said0:PySem.W.OpenLaw.wellSaid PySem.Challenge.rw_vellum_k63_whole_rows_to_text_and_back=true:=by kernel_rfl
end K63
namespace L2
open PySem PySem.Spec PyProof.Rows
abbrev Key:=Sum Int Str
def keyIs:Key->Value->Bool
 | .inl k,v=>Value.isInt k v
 | .inr x,v=>Value.isStrOf x v
def keyH (w:World):Key->Int
 | .inl k=>hashInt k
 | .inr x=>hashStr w x
theorem keyIs_shape:∀ {k:Key} {v:Value},keyIs k v=true->(∃ i t,k=Sum.inl i/\v=Value.int i t)\/(∃ x t,k=Sum.inr x/\v=Value.str x t)
 | .inl i,v,h=>by
  obtain ⟨t,e⟩:=Value.isInt_shape (k:=i) (v:=v) h
  exact .inl ⟨i,t,rfl,e⟩
 | .inr x,v,h=>by
  obtain ⟨t,e⟩:=Value.isStrOf_shape (x:=x) (v:=v) h
  exact .inr ⟨x,t,rfl,e⟩
theorem keyIs_str (x:Str) (t:Tok):keyIs (.inr x) (.str x t)=true:=by simp [keyIs,Value.isStrOf]
theorem key_ll (a b:Int):decide ((Sum.inl a:Key)=Sum.inl b)=(a == b):=by
 by_cases e:a=b
 ·subst e;simp
 ·have h:¬ (Sum.inl a:Key)=Sum.inl b:=fun q=>e (Sum.inl.inj q)
  rw [decide_eq_false h]
  exact (beq_eq_false_iff_ne.mpr e).symm
theorem key_rr (a b:Str):decide ((Sum.inr a:Key)=Sum.inr b)=decide (a=b):=by
 by_cases e:a=b
 ·subst e;simp
 ·have h:¬ (Sum.inr a:Key)=Sum.inr b:=fun q=>e (Sum.inr.inj q)
  rw [decide_eq_false h,decide_eq_false e]
theorem key_lr (a:Int) (b:Str):decide ((Sum.inl a:Key)=Sum.inr b)=false:=decide_eq_false (fun q=>nomatch q)
theorem key_rl (a:Str) (b:Int):decide ((Sum.inr a:Key)=Sum.inl b)=false:=decide_eq_false (fun q=>nomatch q)
def mixKind (prog:Program) (w:World):PySem.KeyKind prog w Key where
 is:=keyIs
 hash:=keyH w
 inj:=fun v a b ha hb=>by
  rcases keyIs_shape ha with ⟨i,t,rfl,rfl⟩ | ⟨x,t,rfl,rfl⟩
  ·rcases keyIs_shape hb with ⟨j,u,rfl,e⟩ | ⟨y,u,rfl,e⟩
   ·injection e with e1 _;rw [e1]
   ·exact nomatch e
  ·rcases keyIs_shape hb with ⟨j,u,rfl,e⟩ | ⟨y,u,rfl,e⟩
   ·exact nomatch e
   ·injection e with e1 _;rw [e1]
 byValue:=fun k v h=>by
  rcases keyIs_shape h with ⟨i,t,rfl,rfl⟩ | ⟨x,t,rfl,rfl⟩ <;> rfl
 pyHash:=fun hv h=>by
  rcases keyIs_shape hv with ⟨i,t,rfl,rfl⟩ | ⟨x,t,rfl,rfl⟩
  ·exact wpAny_pyHash_int h
  ·exact wpAny_pyHash_str h
 eqBool:=fun hu hv h=>by
  rcases keyIs_shape hu with ⟨i,t,rfl,rfl⟩ | ⟨x,t,rfl,rfl⟩
  ·rcases keyIs_shape hv with ⟨j,u,rfl,rfl⟩ | ⟨y,u,rfl,rfl⟩
   ·rw [key_ll] at h;exact wpAny_eqBool_int h
   ·rw [key_lr] at h;exact SeqAt.EqAt.int_str i t y u _ _ _ _ h
  ·rcases keyIs_shape hv with ⟨j,u,rfl,rfl⟩ | ⟨y,u,rfl,rfl⟩
   ·rw [key_rl] at h;exact SeqAt.EqAt.str_int x t j u _ _ _ _ h
   ·rw [key_rr] at h;exact wpAny_eqBool_str h
 «strs»:=fun k x t v h=>by
  rcases keyIs_shape h with ⟨i,u,rfl,e⟩ | ⟨y,u,rfl,e⟩
  ·exact nomatch e
  ·injection e with e1 _
   subst e1
   cases v <;> rfl
end L2
namespace L2
open PySem PySem.Spec PyProof.Rows
inductive V where
 | non | bl (b:Bool) | int (i:Int) | str (x:Str) | byt (b:Array UInt8) | flt (b:UInt64) | ref (a:Addr) | ty (n:String)
 deriving DecidableEq
def RelV:V->Value->Prop
 | .non,u=>u=Value.none
 | .bl b,u=>u=Value.bool b
 | .int i,u=>∃ t,u=Value.int i t
 | .str x,u=>∃ t,u=Value.str x t
 | .byt b,u=>∃ t,u=Value.bytes b t
 | .flt b,u=>∃ t,u=Value.float b t
 | .ref a,u=>u=Value.ref a
 | .ty n,u=>u=Value.type n
abbrev Vals:List V->List Value->Prop:=Paired RelV
theorem Vals.length {xs:List V} {us:List Value} (r:Vals xs us):xs.length=us.length:=Paired.length r
theorem Vals.get:∀ {xs:List V} {us:List Value} {i:Nat} {x:V},Vals xs us->xs[i]?=some x->∃ u,us[i]?=some u/\RelV x u
 | _,_,_,_,.nil,e=>by simp at e
 | _,_,0,_,.cons r _,e=>by simp at e;subst e;exact ⟨_,rfl,r⟩
 | _,_,i+1,x,.cons _ t,e=>by
  obtain ⟨u,h1,h2⟩:=Vals.get (i:=i) (x:=x) t (by simpa using e)
  exact ⟨u,by simpa using h1,h2⟩
theorem Vals.set {x:V} {u:Value} (r:RelV x u):∀ {xs:List V} {us:List Value} (i:Nat),Vals xs us->Vals (xs.set i x) (us.set i u)
 | _,_,_,.nil=>.nil
 | _,_,0,.cons _ t=>.cons r t
 | _,_,i+1,.cons q t=>.cons q (Vals.set r i t)
theorem Vals.append:∀ {xs ys:List V} {us ws:List Value},Vals xs us->Vals ys ws->Vals (xs++ys) (us++ws)
 | _,_,_,_,.nil,s=>s
 | _,_,_,_,.cons r t,s=>.cons r (Vals.append t s)
theorem Vals.take:∀ {xs:List V} {us:List Value} (n:Nat),Vals xs us->Vals (xs.take n) (us.take n)
 | _,_,0,_=>.nil
 | _,_,_+1,.nil=>.nil
 | _,_,n+1,.cons r t=>.cons r (Vals.take n t)
theorem Vals.drop:∀ {xs:List V} {us:List Value} (n:Nat),Vals xs us->Vals (xs.drop n) (us.drop n)
 | _,_,0,r=>r
 | _,_,_+1,.nil=>.nil
 | _,_,n+1,.cons _ t=>Vals.drop n t
def RelO:Option V->Option Value->Prop
 | some v,some u=>RelV v u
 | none,none=>True
 | _,_=>False
def KV {κ:Type}:List (κ × V)->List (κ × Value)->Prop:=Paired fun (p:κ × V) (q:κ × Value)=>p.1=q.1/\RelV p.2 q.2
inductive HO where
 /-- a list -/
 | lst (xs:List V)
 /-- a tuple (never changes) -/
 | tup (xs:List V)
 /-- a dict whose keys are ints and texts;one whose keys are tuples of ints and texts (the empty one is both) -/
 | dK (kvs:List (Key × V)) | dT (kvs:List (List Key × V))
 /-- a set of ints: its members,its size -/
 | set (S:Int->Bool) (n:Nat)
 /-- an instance of the class at C,its dict at dx,its attributes -/
 | ins (C dx:Addr) (fs:List (Str × V))
 /-- the dict of the instance at x -/
 | own (x:Addr)
 /-- the dict of an exception -/
 | xd (fs:List (Str × V))
 /-- a bound method,f of x -/
 | met (f x:Addr)
 /-- a range object lo,lo+1, .. below hi -/
 | rng (lo hi:Int)
 /-- a thing that is known to the object (the script;a dict while a loop walks it): read,never written while it is so -/
 | frz (o:Obj) (u:HO)
 /-- a code object's table -/
 | tbl (ps:Array Value)
 /-- any other thing,by what is true of its one object (a def of one's own: SetO a S n:=HO.ext fun h=>..) -/
 | ext (φ:Heap->Prop)
abbrev Hp:=Addr->Option HO
def upd (H:Hp) (a:Addr) (o:HO):Hp:=fun b=>if b=a then some o else H b
theorem upd_same {H:Hp} {a:Addr} {o:HO}:upd H a o a=some o:=by unfold upd;rw [if_pos rfl]
theorem upd_ne {H:Hp} {a b:Addr} {o:HO} (h:b ≠ a):upd H a o b=H b:=by unfold upd;rw [if_neg h]
theorem ne_of {H:Hp} {a b:Addr} {o u:HO} (h:H a=some o) (h':H b=some u) (d:o ≠ u):a ≠ b:=by
 intro e;subst e;rw [h] at h';exact d (Option.some.inj h')
theorem ne_of_none {H:Hp} {a b:Addr} {o:HO} (h:H a=some o) (h':H b=none):a ≠ b:=by
 intro e;subst e;rw [h] at h';cases h'
section
variable (P:Program) (w:World)
def ObjOk (H:Hp) (h:Heap) (a:Addr):HO->Prop
 | .lst xs=>xs.length<=sizeLine/\∃ (its:List Value) (n:Nat),Vals xs its/\h.get? a=some { cls:=.type "list",data:=.seq its.toArray n }
 | .tup xs=>xs.length<=sizeLine/\∃ its:List Value,Vals xs its/\IsTup h a its.toArray
 | .dK kvs=>kvs.length<=sizeLine/\(a == sysModules)=false/\∃ vs,KV kvs vs/\h.DictOf (mixKind P w) a vs
 | .dT _=>False
 | .set S n=>h.SetOf (intKind P w) a S n
 | .ins C dx fs=>H dx=some (.own a)/\fs.length<=1000/\dx ≠ a/\h.get? a=some (PySem.W.instObj C dx) ∧
   ∃ mA,h.Ns1 dx mA/\(∀ f,RelO (fs.lookup f) (mA f))/\PySem.Within mA (fs.map (·.1))
 | .own _=>∃ o,h.get? a=some o
 | .xd fs=>∃ mA,h.Ns1 a mA/\∀ f,RelO (fs.lookup f) (mA f)
 | .rng lo hi=>∃ t u v,h.get? a=some { cls:=.type "range",data:=.fields #[.int lo t,.int hi u,.int 1 v] }
 | .frz o u=>h.get? a=some o/\ObjOk H h a u
 | .tbl ps=>h.get? a=some { cls:=.none,data:=.fields ps }
 | .met f x=>h.get? a=some (PySem.W.methodObj (.ref f) (.ref x))
 | .ext φ=>φ h/\(∃ o,h.get? a=some o)/\∀ h1 h2:Heap,φ h1->(∀ o,h1.get? a=some o->h2.get? a=some o)->φ h2
def HOk (H:Hp) (h:Heap):Prop:=∀ a o,H a=some o->ObjOk P w H h a o
end
section
variable {P:Program} {w:World} {H H':Hp} {h h':Heap} {a:Addr} {o:HO}
theorem ObjOk.lt (x:ObjOk P w H h a o):a < h.objs.size:=by
 cases o with
 | lst xs=>obtain ⟨_,_,_,_,e⟩:=x;exact Heap.lt_size e
 | tup xs=>obtain ⟨_,_,_,p⟩:=x;exact p.lt
 | dK kvs=>obtain ⟨_,_,_,_,o,_,_,e,_⟩:=x;exact Heap.lt_size e
 | dT kvs=>exact False.elim x
 | set S n=>obtain ⟨o,_,_,_,e,_⟩:=x;exact Heap.lt_size e
 | ins C dx fs=>obtain ⟨_,_,_,e,_⟩:=x;exact Heap.lt_size e
 | own y=>obtain ⟨_,e⟩:=x;exact Heap.lt_size e
 | xd fs=>obtain ⟨_,⟨_,_,_,e,_⟩,_⟩:=x;exact Heap.lt_size e
 | rng lo hi=>obtain ⟨_,_,_,e⟩:=x;exact Heap.lt_size e
 | frz ob u=>obtain ⟨e,_⟩:=x;exact Heap.lt_size e
 | tbl ps=>exact Heap.lt_size (show h.get? a=some _ from x)
 | met f y=>exact Heap.lt_size (show h.get? a=some _ from x)
 | ext φ=>obtain ⟨_,⟨_,e⟩,_⟩:=x;exact Heap.lt_size e
theorem ObjOk.stay (x:ObjOk P w H h a o) (k:∀ b u,(b=a\/H b=some (.own a))->h.get? b=some u->h'.get? b=some u)
  (ho:∀ b,H b=some (.own a)->H' b=some (.own a)) (ht:∀ b xs,H b=some (.tup xs)->H' b=some (.tup xs)):ObjOk P w H' h' a o:=by
 induction o with
 | lst xs=>obtain ⟨z,its,n,r,e⟩:=x;exact ⟨z,its,n,r,k _ _ (.inl rfl) e⟩
 | tup xs=>obtain ⟨z,its,r,ob,e,c⟩:=x;exact ⟨z,its,r,ob,k _ _ (.inl rfl) e,c⟩
 | dK kvs=>obtain ⟨z,y,vs,r,ob,es,ep,e,c⟩:=x;exact ⟨z,y,vs,r,ob,es,ep,k _ _ (.inl rfl) e,c⟩
 | dT kvs=>exact False.elim x
 | set S n=>obtain ⟨ob,es,ep,t,e,c⟩:=x;exact ⟨ob,es,ep,t,k _ _ (.inl rfl) e,c⟩
 | ins C dx fs=>
  obtain ⟨d,z,ne,e,mA,⟨od,es,ep,e2,c⟩,r⟩:=x
  exact ⟨ho _ d,z,ne,k _ _ (.inl rfl) e,mA,⟨od,es,ep,k _ _ (.inr d) e2,c⟩,r⟩
 | own y=>obtain ⟨ob,e⟩:=x;exact ⟨ob,k _ _ (.inl rfl) e⟩
 | xd fs=>obtain ⟨mA,⟨od,es,ep,e,c⟩,r⟩:=x;exact ⟨mA,⟨od,es,ep,k _ _ (.inl rfl) e,c⟩,r⟩
 | rng lo hi=>obtain ⟨t,u,v,e⟩:=x;exact ⟨t,u,v,k _ _ (.inl rfl) e⟩
 | frz ob u ih=>obtain ⟨e,q⟩:=x;exact ⟨k _ _ (.inl rfl) e,ih q⟩
 | tbl ps=>
  have e:h.get? a=some { cls:=.none,data:=.fields ps }:=x
  show h'.get? a=some { cls:=.none,data:=.fields ps }
  exact k a _ (.inl rfl) e
 | met f y=>
  have e:h.get? a=some (PySem.W.methodObj (.ref f) (.ref y)):=x
  show h'.get? a=some (PySem.W.methodObj (.ref f) (.ref y))
  exact k a _ (.inl rfl) e
 | ext φ=>obtain ⟨p,⟨o,e⟩,st⟩:=x;exact ⟨st _ _ p fun o q=>k _ _ (.inl rfl) q,⟨o,k _ _ (.inl rfl) e⟩,st⟩
theorem HOk.lt (x:HOk P w H h) (e:H a=some o):a < h.objs.size:=(x a o e).lt
theorem HOk.fresh (x:HOk P w H h) (e:h.objs.size<=a):H a=none:=by
 cases q:H a with
 | none=>rfl
 | some u=>exact absurd (Nat.lt_of_lt_of_le (x.lt q) e) (Nat.lt_irrefl _)
theorem HOk.kept (x:HOk P w H h) (k:∀ b u,h.get? b=some u->h'.get? b=some u):HOk P w H h':=fun a o e=>
 (x a o e).stay (fun b u _ q=>k b u q) (fun _ q=>q) fun _ _ q=>q
theorem HOk.laid (x:HOk P w H h) (k:∀ b u,h.get? b=some u->h'.get? b=some u) (hp:h.objs.size<=a) (new:ObjOk P w (upd H a o) h' a o):HOk P w (upd H a o) h':=fun b u e=>by
 have hn:=x.fresh hp
 by_cases hb:b=a
 ·subst hb;rw [upd_same] at e;cases e;exact new
 ·rw [upd_ne hb] at e
  exact (x b u e).stay (fun c v _ q=>k c v q) (fun c q=>by rw [upd_ne (ne_of_none q hn)];exact q) fun c xs q=>by rw [upd_ne (ne_of_none q hn)];exact q
end
def Rd (H:Hp) (a:Addr) (u:HO):Prop:=H a=some u\/∃ o,H a=some (.frz o u)
theorem Rd.ok {P:Program} {w:World} {H:Hp} {h:Heap} {a:Addr} {u:HO} (r:Rd H a u) (x:HOk P w H h):ObjOk P w H h a u:=by
 rcases r with r | ⟨o,r⟩
 ·exact x a u r
 ·obtain ⟨_,q⟩:=x a _ r
  exact q
def Mut:Option HO->Prop
 | some (.lst _)=>True
 | some (.dK _)=>True
 | some (.dT _)=>True
 | some (.set _ _)=>True
 | some (.ins _ _ _)=>True
 | some (.ext _)=>True
 | _=>False
section
variable {P:Program} {w:World} {H:Hp} {h h':Heap} {x e:Addr} {o':HO}
theorem HOk.write (ok:HOk P w H h) (mu:Mut (H x)) (he:e=x\/H e=some (.own x)) (k:∀ b u,b ≠ e->h.get? b=some u->h'.get? b=some u) (heo:∃ u,h'.get? e=some u)
  (new:ObjOk P w (upd H x o') h' x o'):HOk P w (upd H x o') h':=fun b u q=>by
 have nown:∀ c y,H c=some (.own y)->c ≠ x:=fun c y r z=>by subst z;rw [r] at mu;exact mu
 have ntup:∀ c xs,H c=some (.tup xs)->c ≠ x:=fun c xs r z=>by subst z;rw [r] at mu;exact mu
 by_cases hb:b=x
 ·subst hb;rw [upd_same] at q;cases q;exact new
 ·rw [upd_ne hb] at q
  by_cases hbe:b=e
  ·have q':H b=some (.own x):=by
    rcases he with z | z
    ·exact absurd (hbe.trans z) hb
    ·rw [hbe];exact z
   rw [q] at q';cases q'
   obtain ⟨v,hv⟩:=heo
   exact ⟨v,by rw [hbe];exact hv⟩
  ·refine (ok b u q).stay (fun c v hc r=>k c v ?_ r) (fun c r=>by rw [upd_ne (nown c b r)];exact r) fun c xs r=>by rw [upd_ne (ntup c xs r)];exact r
   rcases hc with rfl | hc
   ·exact hbe
   ·rintro rfl
    rcases he with z | z
    ·exact nown c b hc z
    ·rw [hc] at z;cases z;exact hb rfl
end
structure Un (fs ex:List Addr) (H H':Hp) (h h':Heap):Prop where
 keep:∀ b o,h.get? b=some o->H b=none->b ∉ fs->b ∉ ex->h'.get? b=some o
 slot:∀ b o,h.get? b=some o->H b=none->b ∈ fs->b ∉ ex->∃ sl,h'.get? b=some { o with slots:=sl }
 free:∀ b o,h.get? b=some o->H b=none->b ∉ ex->H' b=none
 there:∀ b o,h.get? b=some o->b ∉ ex->∃ o',h'.get? b=some o'
 tups:∀ b xs,H b=some (.tup xs)->H' b=some (.tup xs)
 frzs:∀ b o u,H b=some (.frz o u)->H' b=some (.frz o u)
 tbls:∀ b ps,H b=some (.tbl ps)->∃ more,H' b=some (.tbl (ps++more))
section
variable {fs fs' ex ex':List Addr} {H H1 H2:Hp} {h h1 h2 h':Heap} {a x e:Addr} {o:HO}
theorem Un.any (u:Un fs ex H H1 h h1) {b:Addr} {ob:Obj} (q:h.get? b=some ob) (n:H b=none) (hx:b ∉ ex):∃ sl,h1.get? b=some { ob with slots:=sl }:=by
 by_cases hb:b ∈ fs
 ·exact u.slot b ob q n hb hx
 ·exact ⟨ob.slots,u.keep b ob q n hb hx⟩
theorem Un.kept (k:∀ b u,h.get? b=some u->h'.get? b=some u):Un fs ex H H h h':=
 ⟨fun b ob q _ _ _=>k b ob q,fun b ob q _ _ _=>⟨ob.slots,k b ob q⟩,fun _ _ _ n _=>n,fun b ob q _=>⟨ob,k b ob q⟩,fun _ _ q=>q,fun _ _ _ q=>q,fun _ ps q=>⟨#[],by rw [q];simp⟩⟩
theorem Un.refl:Un fs ex H H h h:=Un.kept fun _ _ q=>q
theorem Un.laid (k:∀ b u,h.get? b=some u->h'.get? b=some u) (hp:h.objs.size<=a) (hn:H a=none):Un fs ex H (upd H a o) h h' where
 keep:=fun b u q _ _ _=>k b u q
 slot:=fun b u q _ _ _=>⟨u.slots,k b u q⟩
 free:=fun b u q n _=>by rw [upd_ne (Nat.ne_of_lt (Nat.lt_of_lt_of_le (Heap.lt_size q) hp))];exact n
 there:=fun b u q _=>⟨u,k b u q⟩
 tups:=fun b xs q=>by rw [upd_ne (ne_of_none q hn)];exact q
 frzs:=fun b u xs q=>by rw [upd_ne (ne_of_none q hn)];exact q
 tbls:=fun b ps q=>⟨#[],by rw [upd_ne (ne_of_none q hn),q];simp⟩
theorem Un.write (mu:Mut (H x)) (he:e=x\/H e=some (.own x)) (k:∀ b u,b ≠ e->h.get? b=some u->h'.get? b=some u) (heo:∃ u,h'.get? e=some u):Un fs ex H (upd H x o) h h':=by
 have hx:∀ b,H b=none->b ≠ x:=fun b n z=>by subst z;rw [n] at mu;exact mu
 have hb:∀ b,H b=none->b ≠ e:=fun b n z=>by
  subst z
  rcases he with r | r
  ·exact hx b n r
  ·rw [n] at r;cases r
 have hm:∀ b u,H b=some u->¬ Mut (some u)->b ≠ x:=fun b u q nm z=>by subst z;rw [q] at mu;exact nm mu
 refine ⟨fun b u q n _ _=>k b u (hb b n) q,fun b u q n _ _=>⟨u.slots,k b u (hb b n) q⟩,fun b u q n _=>by rw [upd_ne (hx b n)];exact n,fun b u q _=>?_,
  fun b xs q=>by rw [upd_ne (hm b _ q fun z=>z)];exact q,fun b u xs q=>by rw [upd_ne (hm b _ q fun z=>z)];exact q,fun b ps q=>⟨#[],by rw [upd_ne (hm b _ q fun z=>z),q];simp⟩⟩
 by_cases hbe:b=e
 ·subst hbe;exact heo
 ·exact ⟨u,k b u hbe q⟩
end
def trk (h:Heap) (H:Hp):List Addr:=(List.range h.objs.size).filter fun a=>(H a).isSome
def hidT (h:Heap) (H:Hp):Heap:=PySem.W.hideAll h (trk h H)
theorem hidT_size (h:Heap) (H:Hp):(hidT h H).objs.size=h.objs.size:=PySem.W.hideAll_size _ _
theorem hidT_get {h:Heap} {H:Hp} {b:Addr} {o:Obj} (e:h.get? b=some o) (n:H b=none):(hidT h H).get? b=some o:=
 PySem.W.hideAll_get _ e fun hm=>by
  have q:(H b).isSome=true:=(List.mem_filter.mp hm).2
  rw [n] at q;simp at q
theorem of_hidT {h:Heap} {H:Hp} {b:Addr} {o:Obj} (e:(hidT h H).get? b=some o):h.get? b=some o/\H b=none:=by
 have e':h.get? b=some o:=PySem.W.of_hideAll (trk h H) e
 refine ⟨e',?_⟩
 cases q:H b with
 | none=>rfl
 | some x=>
  have hm:b ∈ trk h H:=List.mem_filter.mpr ⟨List.mem_range.mpr (Heap.lt_size e'),by simp [q]⟩
  have z:(hidT h H).get? b=none:=PySem.W.hideAll_none (trk h H) hm
  rw [z] at e;cases e
end L2
namespace L2
open PySem PySem.Spec PyProof.Rows
structure Mod (K:PySem.W.Frag) (mg:Str->Option Value) (base:Heap):Prop where
 kin:K.In base
 glob:base.Ns mainGlobals mg
 blt:∃ mb,base.Ns builtinsNs mb/\∀ x:Str,x ≠ "__name__"->mb x=bootBuiltins x
 nolimit:base.NoLimit
structure Cx where
 prog:Program
 w:World
 K:PySem.W.Frag
 mg:Str->Option Value
 base:Heap
 A:Around
 N:List Str
 s₀:Shared
 H₀:Hp
 env:Env
 outer:List Env
 stack:List Env
 ex:List Addr
 fn:Str->Bool
 calm:Bool
 pn:List (Addr × Obj)
 xe:Value->Shared->Prop
def frs (l:List Env):List Addr:=l.filterMap (·.frame)
abbrev Cx.fs (X:Cx):List Addr:=frs X.outer
def Vis (sc:Scope) (x:Str):Prop:=sc.names.lookup x=some .local\/sc.names.lookup x=some .cell\/sc.names.lookup x=some .free
def Loc (sc:Scope) (x:Str):Prop:=sc.names.lookup x=some .local\/sc.names.lookup x=some .cell
def Look (env:Env) (h:Heap) (m:Str->Option Value) (x:Str) (u:Value):Prop:=
 (env.kindOf x=some .local/\m x=some u)\/((env.kindOf x=some .cell\/env.kindOf x=some .free)/\∃ c,env.cells.lookup x=some c/\h.IsCell c (some u))
structure Cx.Ok (X:Cx):Prop where
 mod:Mod X.K X.mg X.base
 kind:X.env.scope.kind=.function
 glob:X.env.globals=mainGlobals
 blt:X.env.builtins=builtinsNs
 above:X.s₀.heap.objs.size<=X.env.locals
 inj:∀ x y c,X.env.cells.lookup x=some c->X.env.cells.lookup y=some c->x=y
 has:∀ x,(X.env.kindOf x=some .cell\/X.env.kindOf x=some .free)->∃ c,X.env.cells.lookup x=some c
 cab:∀ x c,X.fn x=true->X.env.cells.lookup x=some c->X.s₀.heap.objs.size<=c
 hd:X.calm=true->X.A.handled=none
 frames:X.A.frames=some X.stack
 stk:X.stack=X.outer\/(X.stack=X.env :: X.outer/\X.env.frame=some X.env.locals)
 exf:∀ b ∈ X.ex,b ≠ X.env.locals/\∀ x c,X.env.cells.lookup x=some c->c ≠ b
 bs:∀ b o,X.base.get? b=some o->X.s₀.heap.get? b=some o/\X.H₀ b=none
 bsz:X.base.objs.size<=X.s₀.heap.objs.size
 noex:∀ b o,X.base.get? b=some o->b ∉ X.ex
 exfs:∀ b ∈ X.ex,b ∉ X.fs
 funs:X.s₀.heap.FunFrames X.base X.outer
 frf:∀ b ∈ X.fs,X.H₀ b=none
structure Inv (X:Cx) (pins:List (Addr × Obj)) (σ:List (Option V)) (H:Hp) (s:Shared):Prop where
 ok:X.Ok
 os:s.os=X.s₀.os
 bare:AllBare s.gens
 base:Un X.fs X.ex X.H₀ H X.s₀.heap s.heap
 loc:∃ m,s.heap.Ns X.env.locals m/\∀ (i:Nat) (x:Str) (v:V),X.N[i]?=some x->σ[i]?=some (some v)->Vis X.env.scope x->∃ u,RelV v u/\Look X.env s.heap m x u
 cell:∀ x c,X.env.cells.lookup x=some c->∃ v,s.heap.IsCell c v
 free:H X.env.locals=none
 freeC:∀ x c,X.env.cells.lookup x=some c->H c=none
 pin:∀ p ∈ X.pn++pins,s.heap.get? p.1=some p.2/\H p.1=none/\p.1 ≠ X.env.locals/\p.1 ∉ X.fs/\∀ v,p.2.data ≠ .cell v
 hok:HOk X.prog X.w H s.heap
 len:σ.length=X.N.length
section
variable {X:Cx} {pins:List (Addr × Obj)} {σ:List (Option V)} {H H':Hp} {s:Shared} {h':Heap}
theorem Cx.Ok.nofr (ok:X.Ok) {b:Addr} {o:Obj} (e:X.base.get? b=some o):b ∉ X.fs:=fun hb=>by
 have:=(ok.funs.mem hb).1
 rw [e] at this;cases this
theorem Inv.bs (I:Inv X pins σ H s):∀ b o,X.base.get? b=some o->s.heap.get? b=some o/\H b=none:=fun b o e=>
 ⟨I.base.keep b o (I.ok.bs b o e).1 (I.ok.bs b o e).2 (I.ok.nofr e) (I.ok.noex b o e),I.base.free b o (I.ok.bs b o e).1 (I.ok.bs b o e).2 (I.ok.noex b o e)⟩
theorem Inv.bk (I:Inv X pins σ H s):∀ b o,X.base.get? b=some o->s.heap.get? b=some o:=fun b o e=>(I.bs b o e).1
theorem Inv.mod (I:Inv X pins σ H s):Mod X.K X.mg X.base:=I.ok.mod
theorem Inv.kIn (I:Inv X pins σ H s):X.K.In s.heap:=I.ok.mod.kin.keeps I.bk
theorem Inv.lt (I:Inv X pins σ H s):X.env.locals < s.heap.objs.size:=let ⟨_,hn,_⟩:=I.loc;hn.lt
theorem Inv.sz (I:Inv X pins σ H s):X.s₀.heap.objs.size<=s.heap.objs.size:=Nat.le_trans I.ok.above (Nat.le_of_lt I.lt)
theorem Inv.nofs (I:Inv X pins σ H s) {a:Addr} (h:s.heap.objs.size<=a):a ∉ X.fs:=fun hb=>by
 obtain ⟨_,o,ho,_⟩:=I.ok.funs.mem hb
 exact absurd (Nat.lt_of_lt_of_le (Heap.lt_size ho) (Nat.le_trans I.sz h)) (Nat.lt_irrefl _)
theorem Inv.cne (I:Inv X pins σ H s):∀ x c,X.env.cells.lookup x=some c->c ≠ X.env.locals:=fun x c e z=>by
 obtain ⟨v,o,ho,hd⟩:=I.cell x c e
 obtain ⟨m,⟨o',es,ep,ho',hd',_⟩,_⟩:=I.loc
 rw [z,ho'] at ho;cases ho;rw [hd'] at hd;cases hd
theorem Inv.funs (I:Inv X pins σ H s):s.heap.FunFrames X.base X.outer:=by
 have all:∀ (l:List Env),(∀ b ∈ frs l,b ∈ X.fs)->X.s₀.heap.FunFrames X.base l->s.heap.FunFrames X.base l:=by
  intro l
  induction l with
  | nil=>intro _ _;trivial
  | cons env r ih=>
   intro hs hl
   obtain ⟨hk,⟨L,o,hf,hn,ho,hd⟩,hr⟩:=hl
   have hL:L ∈ X.fs:=hs L (by unfold frs;rw [List.filterMap_cons,hf];exact List.mem_cons_self)
   obtain ⟨sl,e⟩:=I.base.slot L o ho (I.ok.frf L hL) hL fun z=>I.ok.exfs L z hL
   exact ⟨hk,⟨L,_,hf,hn,e,hd⟩,ih (fun b hb=>hs b (by unfold frs;rw [List.filterMap_cons,hf];exact List.mem_cons_of_mem _ hb)) hr⟩
 exact all X.outer (fun _ hb=>hb) I.ok.funs
theorem Inv.stack (I:Inv X pins σ H s):s.heap.FunFrames X.base X.stack:=by
 rcases I.ok.stk with e | ⟨e,hf⟩
 ·rw [e];exact I.funs
 ·rw [e]
  obtain ⟨m,hn,_⟩:=I.loc
  refine .cons (by rw [I.ok.kind];decide) hf hn ?_ I.funs
  exact Heap.get?_none_of_le (Nat.le_trans I.ok.bsz I.ok.above)
theorem Inv.stkSub (I:Inv X pins σ H s):∀ b ∈ frs X.stack,b ∈ X.env.locals :: X.fs:=fun b hb=>by
 rcases I.ok.stk with e | ⟨e,hf⟩
 ·rw [e] at hb;exact List.mem_cons_of_mem _ hb
 ·rw [e] at hb
  unfold frs at hb
  rw [List.filterMap_cons,hf] at hb
  exact hb
theorem Inv.stkFree (I:Inv X pins σ H s):∀ b ∈ frs X.stack,H b=none:=fun b hb=>by
 rcases List.mem_cons.mp (I.stkSub b hb) with e | hb
 ·rw [e];exact I.free
 ·obtain ⟨_,o,ho,_⟩:=I.ok.funs.mem hb
  exact I.base.free b o ho (I.ok.frf b hb) fun z=>I.ok.exfs b z hb
theorem Inv.step {g':Array GenState} {t':Nat} {d':Drawn} {ch:List Addr} (I:Inv X pins σ H s)
  (hch:∀ b ∈ ch,(b ∈ X.ex\/X.s₀.heap.objs.size<=b)/\b ≠ X.env.locals/\(∀ x c,X.env.cells.lookup x=some c->c ≠ b)/\∀ p ∈ X.pn++pins,p.1 ≠ b)
  (keep:∀ b o,b ≠ X.env.locals->b ∉ X.fs->b ∉ ch->s.heap.get? b=some o->H b=none->h'.get? b=some o)
  (slot:∀ b o,b ≠ X.env.locals->b ∈ X.fs->b ∉ ch->s.heap.get? b=some o->H b=none->∃ sl,h'.get? b=some { o with slots:=sl }) (free:∀ b o,b ∉ ch->s.heap.get? b=some o->H b=none->H' b=none)
  (there:∀ b o,b ∉ ch->s.heap.get? b=some o->∃ o',h'.get? b=some o')
  (tups:∀ b xs,H b=some (.tup xs)->H' b=some (.tup xs)) (frzs:∀ b o u,H b=some (.frz o u)->H' b=some (.frz o u)) (tbls:∀ b ps,H b=some (.tbl ps)->∃ more,H' b=some (.tbl (ps++more)))
  (ns:∀ m,s.heap.Ns X.env.locals m->h'.Ns X.env.locals m) (hok:HOk X.prog X.w H' h') (hg:AllBare g') :
  Inv X pins σ H' { s with heap:=h',gens:=g',drawn:=d',toks:=t' }:=by
 have neL:∀ b o,X.s₀.heap.get? b=some o->b ≠ X.env.locals:=fun b o e=>Nat.ne_of_lt (Nat.lt_of_lt_of_le (Heap.lt_size e) I.ok.above)
 have neC:∀ b o,X.s₀.heap.get? b=some o->b ∉ X.ex->b ∉ ch:=fun b o e hx hb=>by
  rcases (hch b hb).1 with z | z
  ·exact hx z
  ·exact absurd (Nat.lt_of_lt_of_le (Heap.lt_size e) z) (Nat.lt_irrefl _)
 have cellK:∀ x c,X.env.cells.lookup x=some c->∀ v,s.heap.IsCell c v->h'.IsCell c v:=fun x c e v ⟨o,ho,hd⟩=>by
  have nch:c ∉ ch:=fun z=>(hch c z).2.2.1 x c e rfl
  by_cases hc:c ∈ X.fs
  ·obtain ⟨sl,q⟩:=slot c o (I.cne x c e) hc nch ho (I.freeC x c e)
   exact ⟨_,q,hd⟩
  ·exact ⟨o,keep c o (I.cne x c e) hc nch ho (I.freeC x c e),hd⟩
 refine ⟨I.ok,I.os,hg,⟨fun b o e n hb hx=>?_,fun b o e n hb hx=>?_,fun b o e n hx=>?_,fun b o e hx=>?_,fun b xs e=>tups b xs (I.base.tups b xs e),fun b o xs e=>frzs b o xs (I.base.frzs b o xs e),fun b ps e=>?_⟩,?_,fun x c e=>?_,?_,fun x c e=>?_,fun p hp=>?_,hok,I.len⟩
 ·exact keep b o (neL b o e) hb (neC b o e hx) (I.base.keep b o e n hb hx) (I.base.free b o e n hx)
 ·obtain ⟨sl,e1⟩:=I.base.slot b o e n hb hx
  obtain ⟨sl',e2⟩:=slot b _ (neL b o e) hb (neC b o e hx) e1 (I.base.free b o e n hx)
  exact ⟨sl',e2⟩
 ·obtain ⟨o',e1⟩:=I.base.there b o e hx
  exact free b o' (neC b o e hx) e1 (I.base.free b o e n hx)
 ·obtain ⟨o',e1⟩:=I.base.there b o e hx
  exact there b o' (neC b o e hx) e1
 ·obtain ⟨m1,e1⟩:=I.base.tbls b ps e
  obtain ⟨m2,e2⟩:=tbls b _ e1
  exact ⟨m1++m2,by rw [e2,Array.append_assoc]⟩
 ·obtain ⟨m,hn,hl⟩:=I.loc
  refine ⟨m,ns m hn,fun i x v e1 e2 e3=>?_⟩
  obtain ⟨u,r,l⟩:=hl i x v e1 e2 e3
  refine ⟨u,r,?_⟩
  rcases l with l | ⟨k,c,e,z⟩
  ·exact .inl l
  ·exact .inr ⟨k,c,e,cellK x c e _ z⟩
 ·obtain ⟨v,z⟩:=I.cell x c e
  exact ⟨v,cellK x c e v z⟩
 ·obtain ⟨m,⟨o,_,_,ho,_⟩,_⟩:=I.loc
  exact free _ o (fun z=>(hch _ z).2.1 rfl) ho I.free
 ·obtain ⟨v,o,ho,hd⟩:=I.cell x c e
  exact free c o (fun z=>(hch c z).2.2.1 x c e rfl) ho (I.freeC x c e)
 ·obtain ⟨e,n,ne,nf,d⟩:=I.pin p hp
  have nch:p.1 ∉ ch:=fun z=>(hch p.1 z).2.2.2 p hp rfl
  exact ⟨keep p.1 p.2 ne nf nch e n,free p.1 p.2 nch e n,ne,nf,d⟩
theorem Inv.un {t':Nat} (I:Inv X pins σ H s) (u:Un X.fs [] H H' s.heap h') (hok:HOk X.prog X.w H' h'):Inv X pins σ H' { s with heap:=h',toks:=t' }:=by
 obtain ⟨m,⟨o,es,ep,ho,r⟩,_⟩:=id I.loc
 obtain ⟨sl,hL⟩:=u.any ho I.free (by simp)
 exact I.step (g':=s.gens) (d':=s.drawn) (ch:=[]) (fun _ z=>nomatch z) (fun b o _ hb _ e n=>u.keep b o e n hb (by simp)) (fun b o _ hb _ e n=>u.slot b o e n hb (by simp)) (fun b o _ e n=>u.free b o e n (by simp)) (fun b o _ e=>u.there b o e (by simp)) u.tups u.frzs u.tbls (fun m' hm=>by
  obtain ⟨o',es',ep',ho',r'⟩:=hm
  rw [ho] at ho';cases ho'
  exact ⟨_,es',ep',hL,r'⟩) hok I.bare
theorem Inv.call {g':Array GenState} {t':Nat} {d':Drawn} {ch:List Addr} (I:Inv X pins σ H s) (u:Un (frs X.stack) ch H H' s.heap h') (hok:HOk X.prog X.w H' h') (hg:AllBare g')
  (hch:∀ b ∈ ch,(b ∈ X.ex\/X.s₀.heap.objs.size<=b)/\b ≠ X.env.locals/\(∀ x c,X.env.cells.lookup x=some c->c ≠ b)/\∀ p ∈ X.pn++pins,p.1 ≠ b) :
  Inv X pins σ H' { s with heap:=h',gens:=g',drawn:=d',toks:=t' }:=by
 obtain ⟨m,⟨o,es,ep,ho,r⟩,_⟩:=id I.loc
 obtain ⟨sl,hL⟩:=u.any ho I.free fun z=>(hch _ z).2.1 rfl
 exact I.step (ch:=ch) hch (fun b o hL hb hc e n=>u.keep b o e n (fun z=>(List.mem_cons.mp (I.stkSub b z)).elim hL hb) hc) (fun b o _ _ hc e n=>u.any e n hc) (fun b o hc e n=>u.free b o e n hc) (fun b o hc e=>u.there b o e hc) u.tups u.frzs u.tbls (fun m' hm=>by
  obtain ⟨o',es',ep',ho',r'⟩:=hm
  rw [ho] at ho';cases ho'
  exact ⟨_,es',ep',hL,r'⟩) hok hg
theorem Inv.turned {t':Nat} {it:Addr} (I:Inv X pins σ H s) (k:∀ b o,b ≠ it->s.heap.get? b=some o->h'.get? b=some o) (hn:H it=none) (hL:it ≠ X.env.locals)
  (h1:it ∈ X.ex\/X.s₀.heap.objs.size<=it) (h2:∀ x c,X.env.cells.lookup x=some c->c ≠ it) (h3:∀ p ∈ X.pn++pins,p.1 ≠ it):Inv X pins σ H { s with heap:=h',toks:=t' }:=by
 have nit:∀ b u,H b=some u->b ≠ it:=fun b u e z=>by rw [z,hn] at e;cases e
 refine I.step (g':=s.gens) (d':=s.drawn) (ch:=[it]) (fun b hb=>?_) (fun b o _ _ hc e _=>k b o (fun z=>hc (by simp [z])) e) (fun b o _ _ hc e _=>⟨o.slots,k b o (fun z=>hc (by simp [z])) e⟩) (fun _ _ _ _ n=>n)
  (fun b o hc e=>⟨o,k b o (fun z=>hc (by simp [z])) e⟩) (fun _ _ e=>e) (fun _ _ _ e=>e) (fun b ps e=>⟨#[],by rw [e];simp⟩) (fun m hm=>?_) (fun b u e=>?_) I.bare
 ·have e:b=it:=by simpa using hb
  subst e
  exact ⟨h1,hL,h2,h3⟩
 ·obtain ⟨o,es,ep,ho,r⟩:=hm
  exact ⟨o,es,ep,k _ o (Ne.symm hL) ho,r⟩
 ·refine (I.hok b u e).stay (fun c v hc q=>k c v ?_ q) (fun _ q=>q) fun _ _ q=>q
  rcases hc with z | z
  ·rw [z];exact nit b u e
  ·exact nit c _ z
theorem Inv.tok (I:Inv X pins σ H s) (t:Nat):Inv X pins σ H { s with toks:=t }:=I.un (h':=s.heap) (t':=t) Un.refl I.hok
theorem Inv.kept {t':Nat} (I:Inv X pins σ H s) (k:∀ b u,s.heap.get? b=some u->h'.get? b=some u):Inv X pins σ H { s with heap:=h',toks:=t' }:=I.un (Un.kept k) (I.hok.kept k)
theorem Inv.laid {a:Addr} {o:HO} {t':Nat} (I:Inv X pins σ H s) (k:∀ b u,s.heap.get? b=some u->h'.get? b=some u) (hp:s.heap.objs.size<=a) (new:ObjOk X.prog X.w (upd H a o) h' a o) :
  Inv X pins σ (upd H a o) { s with heap:=h',toks:=t' }:=I.un (Un.laid k hp (I.hok.fresh hp)) (I.hok.laid k hp new)
theorem Inv.write {x e:Addr} {o:HO} {t':Nat} (I:Inv X pins σ H s) (mu:Mut (H x)) (he:e=x\/H e=some (.own x)) (k:∀ b u,b ≠ e->s.heap.get? b=some u->h'.get? b=some u) (heo:∃ u,h'.get? e=some u)
  (new:ObjOk X.prog X.w (upd H x o) h' x o):Inv X pins σ (upd H x o) { s with heap:=h',toks:=t' }:=I.un (Un.write mu he k heo) (I.hok.write mu he k heo new)
theorem Inv.pins_of {pins':List (Addr × Obj)} (I:Inv X pins σ H s) (h:∀ p ∈ pins',s.heap.get? p.1=some p.2/\H p.1=none/\p.1 ≠ X.env.locals/\p.1 ∉ X.fs/\∀ v,p.2.data ≠ .cell v):Inv X pins' σ H s:=
 ⟨I.ok,I.os,I.bare,I.base,I.loc,I.cell,I.free,I.freeC,fun p hp=>(List.mem_append.mp hp).elim (fun z=>I.pin p (List.mem_append_left _ z)) (h p),I.hok,I.len⟩
theorem nodup_ix {N:List Str} (hN:N.Nodup) {i j:Nat} {x:Str} (a:N[i]?=some x) (b:N[j]?=some x):i=j:=by
 obtain ⟨h1,e1⟩:=List.getElem?_eq_some_iff.mp a
 obtain ⟨h2,e2⟩:=List.getElem?_eq_some_iff.mp b
 exact (List.getElem_inj hN).mp (e1.trans e2.symm)
theorem store_ok2 {M:Model} {A:Around} {E:Value->Shared->Prop} {i:Nat} {x:Str} {v:V} {u:Value} {Q:Unit->Shared->Prop} (I:Inv X pins σ H s) (hN:X.N.Nodup) (hi:X.N[i]?=some x) (hx:Loc X.env.scope x) (r:RelV v u)
  (h:∀ s',Inv X pins (σ.set i (some v)) H s'->(∃ a,Heap.SameBut a s.heap s'.heap/\(a=X.env.locals\/X.env.cells.lookup x=some a))->Q () s') (hf:X.fn x=true\/X.env.scope.names.lookup x=some .local:=by first | exact .inl rfl | exact .inr rfl | assumption):wpAny M A (storeName X.env x u) Q E s:=by
 obtain ⟨m,hn,hl⟩:=id I.loc
 have hcls:(X.env.scope.kind == .class || (X.env.scope.kind == .module && X.env.locals != X.env.globals))=false:=by rw [I.ok.kind];rfl
 have hiσ:i < σ.length:=by rw [I.len];exact (List.getElem?_eq_some_iff.mp hi).1
 have cne:=I.cne
 have tracked:∀ {a:Addr} {h':Heap},(∃ o,s.heap.get? a=some o/\H a=none)->Heap.SameBut a s.heap h'->HOk X.prog X.w H h':=fun {a h'} ha hs b ob e=>by
  obtain ⟨_,_,hfree⟩:=ha
  refine (I.hok b ob e).stay (fun c w' hc q=>(hs.2 c ?_).trans q) (fun _ q=>q) fun _ _ q=>q
  rintro rfl
  rcases hc with rfl | hc
  ·rw [hfree] at e;cases e
  ·rw [hfree] at hc;cases hc
 rcases hx with hk | hk
 ·refine wpAny_storeName_local hk hn (fun h' hn' hs=>?_) hcls
  obtain ⟨oL,_,_,hoL,_⟩:=id hn
  refine h _ ⟨I.ok,I.os,I.bare,⟨fun b o e n hb hx=>?_,fun b o e n hb hx=>?_,I.base.free,fun b o e hx=>?_,I.base.tups,I.base.frzs,I.base.tbls⟩,⟨_,hn',fun j y v' e1 e2 e3=>?_⟩,fun y c e=>?_,I.free,I.freeC,fun p hp=>?_,tracked ⟨oL,hoL,I.free⟩ hs,by simpa using I.len⟩ ⟨_,hs,.inl rfl⟩
  ·exact (hs.2 b (Nat.ne_of_lt (Nat.lt_of_lt_of_le (Heap.lt_size e) I.ok.above))).trans (I.base.keep b o e n hb hx)
  ·obtain ⟨sl,e1⟩:=I.base.slot b o e n hb hx
   exact ⟨sl,(hs.2 b (Nat.ne_of_lt (Nat.lt_of_lt_of_le (Heap.lt_size e) I.ok.above))).trans e1⟩
  ·obtain ⟨o',e1⟩:=I.base.there b o e hx
   exact ⟨o',(hs.2 b (Nat.ne_of_lt (Nat.lt_of_lt_of_le (Heap.lt_size e) I.ok.above))).trans e1⟩
  ·by_cases hj:j=i
   ·subst hj
    rw [hi] at e1;cases e1
    rw [List.getElem?_set_self hiσ] at e2
    cases e2
    exact ⟨u,r,.inl ⟨hk,by simp⟩⟩
   ·rw [List.getElem?_set_ne (Ne.symm hj)] at e2
    obtain ⟨u',r',q⟩:=hl j y v' e1 e2 e3
    refine ⟨u',r',?_⟩
    rcases q with ⟨k,e⟩ | ⟨k,c,e,z⟩
    ·refine .inl ⟨k,?_⟩
     have:y ≠ x:=fun e=>hj (nodup_ix hN e1 (e ▸ hi))
     simp [this,e]
    ·exact .inr ⟨k,c,e,z.sameBut hs (cne y c e)⟩
  ·obtain ⟨w',z⟩:=I.cell y c e
   exact ⟨w',z.sameBut hs (cne y c e)⟩
  ·obtain ⟨e,n,ne,nf,d⟩:=I.pin p hp
   exact ⟨(hs.2 p.1 ne).trans e,n,ne,nf,d⟩
 ·have hfn:X.fn x=true:=by
   rcases hf with z | z
   ·exact z
   ·rw [z] at hk;cases hk
  obtain ⟨c,hc⟩:=I.ok.has x (.inl hk)
  obtain ⟨w',z⟩:=I.cell x c hc
  refine wpAny_storeName_cell I.ok.kind hk hc z (fun h' hc' hs=>?_)
  obtain ⟨oc,hoc,hocd⟩:=id z
  refine h { s with heap:=h' } ⟨I.ok,I.os,I.bare,⟨fun b o e n hb hx=>?_,fun b o e n hb hx=>?_,I.base.free,fun b o e hx=>?_,I.base.tups,I.base.frzs,I.base.tbls⟩,⟨m,hn.sameBut hs (Ne.symm (cne x c hc)),fun j y v' e1 e2 e3=>?_⟩,fun y c' e=>?_,I.free,I.freeC,fun p hp=>?_,tracked ⟨oc,hoc,I.freeC x c hc⟩ hs,by simpa using I.len⟩ ⟨c,hs,.inr hc⟩
  ·exact (hs.2 b (Nat.ne_of_lt (Nat.lt_of_lt_of_le (Heap.lt_size e) (I.ok.cab x c hfn hc)))).trans (I.base.keep b o e n hb hx)
  ·obtain ⟨sl,e1⟩:=I.base.slot b o e n hb hx
   exact ⟨sl,(hs.2 b (Nat.ne_of_lt (Nat.lt_of_lt_of_le (Heap.lt_size e) (I.ok.cab x c hfn hc)))).trans e1⟩
  ·obtain ⟨o',e1⟩:=I.base.there b o e hx
   exact ⟨o',(hs.2 b (Nat.ne_of_lt (Nat.lt_of_lt_of_le (Heap.lt_size e) (I.ok.cab x c hfn hc)))).trans e1⟩
  ·by_cases hj:j=i
   ·subst hj
    rw [hi] at e1;cases e1
    rw [List.getElem?_set_self hiσ] at e2
    cases e2
    exact ⟨u,r,.inr ⟨.inl hk,c,hc,hc'⟩⟩
   ·rw [List.getElem?_set_ne (Ne.symm hj)] at e2
    obtain ⟨u',r',q⟩:=hl j y v' e1 e2 e3
    refine ⟨u',r',?_⟩
    rcases q with q | ⟨k,c',e,z'⟩
    ·exact .inl q
    ·refine .inr ⟨k,c',e,z'.sameBut hs ?_⟩
     rintro rfl
     exact hj (nodup_ix hN e1 (I.ok.inj _ _ _ e hc ▸ hi))
  ·by_cases hcc:c'=c
   ·subst hcc;exact ⟨_,hc'⟩
   ·obtain ⟨w2,z2⟩:=I.cell y c' e
    exact ⟨w2,z2.sameBut hs hcc⟩
  ·obtain ⟨e,n,ne,nf,d⟩:=I.pin p hp
   refine ⟨(hs.2 p.1 ?_).trans e,n,ne,nf,d⟩
   intro q
   rw [q,hoc] at e
   have q':oc=p.2:=Option.some.inj e
   exact d w' (by rw [<-q'];exact hocd)
theorem store_ok {M:Model} {A:Around} {E:Value->Shared->Prop} {i:Nat} {x:Str} {v:V} {u:Value} {Q:Unit->Shared->Prop} (I:Inv X pins σ H s) (hN:X.N.Nodup) (hi:X.N[i]?=some x) (hx:Loc X.env.scope x) (r:RelV v u)
  (h:∀ s',Inv X pins (σ.set i (some v)) H s'->Q () s') (hf:X.fn x=true\/X.env.scope.names.lookup x=some .local:=by first | exact .inl rfl | exact .inr rfl | assumption):wpAny M A (storeName X.env x u) Q E s:=
 store_ok2 I hN hi hx r (fun s' I' _=>h s' I') hf
theorem Inv.call' {s':Shared} {ch:List Addr} (I:Inv X pins σ H s) (ho:s'.os=s.os) (u:Un (frs X.stack) ch H H' s.heap s'.heap) (hok:HOk X.prog X.w H' s'.heap) (hg:AllBare s'.gens)
  (hch:∀ b ∈ ch,(b ∈ X.ex\/X.s₀.heap.objs.size<=b)/\b ≠ X.env.locals/\(∀ x c,X.env.cells.lookup x=some c->c ≠ b)/\∀ p ∈ X.pn++pins,p.1 ≠ b):Inv X pins σ H' s':=by
 obtain ⟨h',g',d',t',o'⟩:=s'
 have e:o'=s.os:=ho
 subst e
 exact I.call (g':=g') (t':=t') (d':=d') u hok hg hch
end
abbrev XK:=Value->Option Addr->Hp->Prop
abbrev St:=List (Option V)
abbrev VK:=V->Hp->Prop
abbrev TE:=St->Hp->VK->Prop
abbrev TT:=St->Hp->(Bool->Hp->Prop)->Prop
abbrev TA:=St->Hp->(List V->Hp->Prop)->Prop
structure Ends where
 nx:St->Hp->Prop
 rt:VK
 bk:St->Hp->Prop:=fun _ _=>False
 ct:St->Hp->Prop:=fun _ _=>False
abbrev TS:=Ends->St->Hp->Prop
def EP (X:Cx) (pins:List (Addr × Obj)) (σ:St) (Q:VK) (u:Value) (s':Shared):Prop:=∃ v H',Inv X pins σ H' s'/\RelV v u/\Q v H'
def TP (X:Cx) (pins:List (Addr × Obj)) (σ:St) (Q:Bool->Hp->Prop) (b:Bool) (s':Shared):Prop:=∃ H',Inv X pins σ H' s'/\Q b H'
def AP (X:Cx) (pins:List (Addr × Obj)) (σ:St) (Q:List V->Hp->Prop) (us:List Value) (s':Shared):Prop:=∃ vs H',Inv X pins σ H' s'/\Vals vs us/\Q vs H'
def SP (X:Cx) (pins:List (Addr × Obj)) (D:Ends) (f:Flow) (s':Shared):Prop:=
 match f with
 | .next=>∃ σ' H',Inv X pins σ' H' s'/\D.nx σ' H'
 | .brk=>∃ σ' H',Inv X pins σ' H' s'/\D.bk σ' H'
 | .cont=>∃ σ' H',Inv X pins σ' H' s'/\D.ct σ' H'
 | .ret u=>∃ v σ' H',Inv X pins σ' H' s'/\RelV v u/\D.rt v H'
def PE (X:Cx) (e:Expr) (t:TE):Prop:=
 ∀ (pins:List (Addr × Obj)) (s:Shared) (σ:St) (H:Hp) (Q:VK),Inv X pins σ H s->t σ H Q->wpAny (model X.prog X.w) X.A (eval e X.env) (EP X pins σ Q) X.xe s
def PT (X:Cx) (e:Expr) (t:TT):Prop:=
 ∀ (pins:List (Addr × Obj)) (s:Shared) (σ:St) (H:Hp) (Q:Bool->Hp->Prop),Inv X pins σ H s->t σ H Q->wpAny (model X.prog X.w) X.A (isTrue e X.env (eval e X.env)) (TP X pins σ Q) X.xe s
def PW (X:Cx) (e:Expr) (t:TT):Prop:=
 ∀ (whole:Sem Value) (pins:List (Addr × Obj)) (s:Shared) (σ:St) (H:Hp) (Q:Bool->Hp->Prop),Inv X pins σ H s->t σ H Q->wpAny (model X.prog X.w) X.A (isTrue e X.env whole) (TP X pins σ Q) X.xe s
theorem PW.pt {X:Cx} {e:Expr} {t:TT} (h:PW X e t):PT X e t:=h _
def PA (X:Cx) (es:List Expr) (t:TA):Prop:=
 ∀ (pos:Pos) (pins:List (Addr × Obj)) (s:Shared) (σ:St) (H:Hp) (Q:List V->Hp->Prop),Inv X pins σ H s->t σ H Q->wpAny (model X.prog X.w) X.A (spliced (backTo pos (starEach es X.env))) (AP X pins σ Q) X.xe s
def PS (X:Cx) (st:Stmt) (t:TS):Prop:=
 ∀ (pins:List (Addr × Obj)) (s:Shared) (σ:St) (H:Hp) (D:Ends),Inv X pins σ H s->t D σ H->wpAny (model X.prog X.w) X.A (exec st X.env) (SP X pins D) X.xe s
def PSs (X:Cx) (st:List Stmt) (t:TS):Prop:=
 ∀ (pins:List (Addr × Obj)) (s:Shared) (σ:St) (H:Hp) (D:Ends),Inv X pins σ H s->t D σ H->wpAny (model X.prog X.w) X.A (execs st X.env) (SP X pins D) X.xe s
theorem thn {α:Type} {t:Sem α} {Q Q':α->Shared->Prop} {M:Model} {A:Around} {E:Value->Shared->Prop} {s:Shared} (h:wpAny M A t Q E s) (hQ:∀ a s,Q a s->Q' a s):wpAny M A t Q' E s:=wpAny_mono h hQ fun _ _ x=>x
end L2
namespace L2
open PySem PySem.Spec PyProof.Rows
section
variable {X:Cx}
def tVar (i:Nat):TE:=fun σ H Q=>∃ v,σ[i]?=some (some v)/\Q v H
def tC (v:V):TE:=fun _ H Q=>Q v H
theorem pe_var {i:Nat} {x:Str} {pos:Pos} (hN:X.N[i]?=some x) (hv:Vis X.env.scope x) (hd:(x == ("__debug__" : Str))=false:=by decide) (hcd:(x == ("__classdict__" : Str))=false:=by decide):PE X (.Name x pos) (tVar i):=by
 intro pins s σ H Q I h
 obtain ⟨v,e,h⟩:=h
 obtain ⟨m,hn,hl⟩:=I.loc
 obtain ⟨u,r,l⟩:=hl i x v hN e hv
 have fin:EP X pins σ Q u s:=⟨v,H,I,r,h⟩
 rcases l with ⟨hk,hm⟩ | ⟨hk,c,hc,hcell⟩
 ·exact wpAny_Name (wpAny_loadName_local I.ok.kind hk hn hm fin) hd
 ·rcases hk with hk | hk
  ·exact wpAny_Name (wpAny_loadName_cell I.ok.kind hk hc hcell fin) hd
  ·exact wpAny_Name (wpAny_loadName_free I.ok.kind hk hc hcell fin hcd) hd
theorem pe_int {i j pos}:PE X (.Constant (.int i) j pos) (tC (.int i)):=fun _ _ _ H _ I h=>wpAny_Constant_int ⟨.int i,H,I.tok _,⟨_,rfl⟩,h⟩
theorem pe_bl {b j pos}:PE X (.Constant (.bool b) j pos) (tC (.bl b)):=fun _ _ _ H _ I h=>Constant_bool ⟨.bl b,H,I,rfl,h⟩
theorem pe_non {j pos}:PE X (.Constant .none j pos) (tC .non):=fun _ _ _ H _ I h=>Constant_none ⟨.non,H,I,rfl,h⟩
theorem pe_str {x j pos}:PE X (.Constant (.str x) j pos) (tC (.str x)):=fun _ _ _ H _ I h=>Calls.Constant_str ⟨.str x,H,I.tok _,⟨_,rfl⟩,h⟩
def Gl (X:Cx) (x:Str):Prop:=X.env.kindOf x=some .globalImplicit
theorem ld_glob {E:Value->Shared->Prop} {pins:List (Addr × Obj)} {s:Shared} {σ:St} {H:Hp} {x:Str} {u:Value} {pos:Pos} {Q:Value->Shared->Prop} (I:Inv X pins σ H s) (hg:Gl X x) (hm:X.mg x=some u) (h:Q u s)
  (hd:(x == ("__debug__" : Str))=false:=by decide):wpAny (model X.prog X.w) X.A (eval (.Name x pos) X.env) Q E s:=
 Calls.Name_function_global I.ok.kind hg (Calls.loadGlobal_global (by rw [I.ok.glob];exact I.mod.glob.keeps I.bk) hm h) hd
theorem ld_blt {E:Value->Shared->Prop} {pins:List (Addr × Obj)} {s:Shared} {σ:St} {H:Hp} {x:Str} {u:Value} {pos:Pos} {Q:Value->Shared->Prop} (I:Inv X pins σ H s) (hg:Gl X x) (hm:X.mg x=none) (hv:bootBuiltins x=some u) (h:Q u s)
  (hn:x ≠ "__name__" := by decide) (hd:(x == ("__debug__" : Str))=false:=by decide):wpAny (model X.prog X.w) X.A (eval (.Name x pos) X.env) Q E s:=by
 obtain ⟨mb,h1,h2⟩:=I.mod.blt
 exact Calls.Name_function_global I.ok.kind hg (Calls.loadGlobal_builtin (by rw [I.ok.glob];exact I.mod.glob.keeps I.bk) hm (by rw [I.ok.blt];exact h1.keeps I.bk) ((h2 x hn).trans hv) h) hd
theorem pe_glob {x:Str} {v:V} {u:Value} {pos:Pos} (hg:Gl X x) (hm:X.mg x=some u) (r:RelV v u) (hd:(x == ("__debug__" : Str))=false:=by decide):PE X (.Name x pos) (tC v):=
 fun _ _ _ H _ I h=>ld_glob I hg hm ⟨v,H,I,r,h⟩ hd
theorem pe_bltn {x:Str} {v:V} {u:Value} {pos:Pos} (hg:Gl X x) (hm:X.mg x=none) (hv:bootBuiltins x=some u) (r:RelV v u) (hn:x ≠ "__name__" := by decide) (hd:(x == ("__debug__" : Str))=false:=by decide):PE X (.Name x pos) (tC v):=
 fun _ _ _ H _ I h=>ld_blt I hg hm hv ⟨v,H,I,r,h⟩ hn hd
variable {a b:Expr} {ta tb:TE} {pos:Pos}
def tB (t:TE):TT:=fun σ H Q=>t σ H fun x H1=>∃ c,x=.bl c/\Q c H1
theorem pt_val {e:Expr} {t:TE} (h:PE X e t) (he:∀ whole,isTrue e X.env whole=(do let v <-whole;standAt e.pos;holding [v] (truthy v)):=by intro _;rfl):PT X e (tB t):=by
 intro pins s σ H Q I hw
 refine isTrue_plain (thn (h pins s σ H _ I hw) fun v s1 ⟨x,H1,I1,r1,q1⟩=>?_) (he _)
 obtain ⟨d,rfl,q⟩:=q1
 cases r1
 exact wpAny_truthy_bool ⟨H1,I1,q⟩
variable {tA tB':TT} {rest:List Expr}
def tAnd (t u:TT):TT:=fun σ H Q=>t σ H fun c H1=>if c=true then u σ H1 Q else Q false H1
def tOr (t u:TT):TT:=fun σ H Q=>t σ H fun c H1=>if c=true then Q true H1 else u σ H1 Q
def tNot (t:TT):TT:=fun σ H Q=>t σ H fun c H1=>Q (!c) H1
theorem pw_and1 (ha:PT X a tA):PW X (.BoolOp .And [a] pos) tA:=by
 intro wh pins s σ H Q I h
 refine isTrue_and (thn (ha pins s σ H Q I h) fun c s1 e=>?_)
 cases c with
 | true=>exact isTrue_and_nil e
 | false=>exact e
theorem pw_or1 (ha:PT X a tA):PW X (.BoolOp .Or [a] pos) tA:=by
 intro wh pins s σ H Q I h
 refine isTrue_or (thn (ha pins s σ H Q I h) fun c s1 e=>?_)
 cases c with
 | false=>exact isTrue_or_nil e
 | true=>exact e
theorem pw_and (ha:PT X a tA) (hb:PW X (.BoolOp .And (b :: rest) pos) tB'):PW X (.BoolOp .And (a :: b :: rest) pos) (tAnd tA tB'):=by
 intro wh pins s σ H Q I h
 refine isTrue_and (thn (ha pins s σ H _ I h) fun c s1 ⟨H1,I1,q1⟩=>?_)
 cases c with
 | true=>exact hb wh pins s1 σ H1 Q I1 q1
 | false=>exact ⟨H1,I1,q1⟩
theorem pw_or (ha:PT X a tA) (hb:PW X (.BoolOp .Or (b :: rest) pos) tB'):PW X (.BoolOp .Or (a :: b :: rest) pos) (tOr tA tB'):=by
 intro wh pins s σ H Q I h
 refine isTrue_or (thn (ha pins s σ H _ I h) fun c s1 ⟨H1,I1,q1⟩=>?_)
 cases c with
 | true=>exact ⟨H1,I1,q1⟩
 | false=>exact hb wh pins s1 σ H1 Q I1 q1
theorem pt_not (ha:PT X a tA):PT X (.UnaryOp .Not a pos) (tNot tA):=by
 intro pins s σ H Q I h
 exact isTrue_not (ha pins s σ H (fun c H1=>Q (!c) H1) I h)
def tAndV (ta tb:TE):TE:=fun σ H Q=>ta σ H fun x H1=>∃ c,x=.bl c/\if c=true then tb σ H1 Q else Q (.bl false) H1
def tOrV (ta tb:TE):TE:=fun σ H Q=>ta σ H fun x H1=>∃ c,x=.bl c/\if c=true then Q (.bl true) H1 else tb σ H1 Q
def tNotV (ta:TE):TE:=fun σ H Q=>ta σ H fun x H1=>∃ c,x=.bl c/\Q (.bl (!c)) H1
theorem pe_one {op} {t:TE} (h:PE X a t):PE X (.BoolOp op [a] pos) t:=fun pins s σ H Q I hw=>BoolOp_one (h pins s σ H Q I hw)
theorem pe_and (ha:PE X a ta) (hb:PE X (.BoolOp .And (b :: rest) pos) tb):PE X (.BoolOp .And (a :: b :: rest) pos) (tAndV ta tb):=by
 intro pins s σ H Q I h
 refine BoolOp_and (thn (ha pins s σ H _ I h) fun v s1 ⟨x,H1,I1,r1,q1⟩=>?_)
 obtain ⟨c,rfl,q1⟩:=q1
 cases r1
 refine wpAny_truthy_bool ?_
 cases c with
 | true=>exact hb pins s1 σ H1 Q I1 q1
 | false=>exact ⟨.bl false,H1,I1,rfl,q1⟩
theorem pe_or (ha:PE X a ta) (hb:PE X (.BoolOp .Or (b :: rest) pos) tb):PE X (.BoolOp .Or (a :: b :: rest) pos) (tOrV ta tb):=by
 intro pins s σ H Q I h
 refine BoolOp_or (thn (ha pins s σ H _ I h) fun v s1 ⟨x,H1,I1,r1,q1⟩=>?_)
 obtain ⟨c,rfl,q1⟩:=q1
 cases r1
 refine wpAny_truthy_bool ?_
 cases c with
 | false=>exact hb pins s1 σ H1 Q I1 q1
 | true=>exact ⟨.bl true,H1,I1,rfl,q1⟩
theorem pe_not (ha:PE X a ta):PE X (.UnaryOp .Not a pos) (tNotV ta):=by
 intro pins s σ H Q I h
 refine UnaryOp_ (thn (ha pins s σ H _ I h) fun v s1 ⟨x,H1,I1,r1,q1⟩=>?_)
 obtain ⟨c,rfl,q1⟩:=q1
 cases r1
 exact not_of (wpAny_truthy_bool ⟨.bl (!c),H1,I1,rfl,q1⟩)
def tIf (t:TT) (ta tb:TE):TE:=fun σ H Q=>t σ H fun c H1=>if c=true then ta σ H1 Q else tb σ H1 Q
theorem pe_ifExp {c:Expr} (hc:PT X c tA) (ha:PE X a ta) (hb:PE X b tb):PE X (.IfExp c a b pos) (tIf tA ta tb):=by
 intro pins s σ H Q I h
 refine wpAny_IfExp (thn (hc pins s σ H _ I h) fun d s1 ⟨H1,I1,q1⟩=>?_)
 cases d with
 | true=>exact ha pins s1 σ H1 Q I1 q1
 | false=>exact hb pins s1 σ H1 Q I1 q1
end
end L2
namespace L2
open PySem PySem.Spec PyProof.Rows
def SqL (K:PySem.W.Frag) (H:Hp) (a:Addr) (xs:List V):Prop:=
 Rd H a (.lst xs) ∨
  ∃ (o:Obj) (its:Array Value) (n:Nat),K.lookup a=some o/\o.cls=.type "list"/\o.dict=none/\o.data=.seq its n/\its.size<=sizeLine/\Vals xs its.toList
def SqT (K:PySem.W.Frag) (H:Hp) (a:Addr) (xs:List V):Prop:=
 Rd H a (.tup xs) ∨
  ∃ (o:Obj) (its:Array Value) (n:Nat),K.lookup a=some o/\o.cls=.type "tuple"/\o.data=.seq its n/\its.size<=sizeLine/\Vals xs its.toList
def absV:Value->Option V
 | .none=>some .non
 | .bool b=>some (.bl b)
 | .int i _=>some (.int i)
 | .str x _=>some (.str x)
 | .bytes b _=>some (.byt b)
 | .float b _=>some (.flt b)
 | .ref a=>some (.ref a)
 | .type n=>some (.ty n)
 | _=>none
theorem RelV.abs {x:V} {u:Value} (r:RelV x u):absV u=some x:=by
 cases x with
 | non=>cases r;rfl
 | bl _=>cases r;rfl
 | int _=>obtain ⟨t,rfl⟩:=r;rfl
 | str _=>obtain ⟨t,rfl⟩:=r;rfl
 | byt _=>obtain ⟨t,rfl⟩:=r;rfl
 | flt _=>obtain ⟨t,rfl⟩:=r;rfl
 | ref _=>cases r;rfl
 | ty _=>cases r;rfl
theorem RelV.inj {x y:V} {u:Value} (r:RelV x u) (q:RelV y u):x=y:=Option.some.inj (r.abs.symm.trans q.abs)
theorem Vals.inj:∀ {xs ys:List V} {us:List Value},Vals xs us->Vals ys us->xs=ys
 | _,_,_,.nil,.nil=>rfl
 | _,_,_,.cons r t,.cons r' t'=>by rw [r.inj r',Vals.inj t t']
section
variable {X:Cx} {pins:List (Addr × Obj)} {σ:St} {H:Hp} {s:Shared} {a:Addr} {xs ys:List V}
theorem SqL.of {K:PySem.W.Frag} (h:H a=some (.lst xs)):SqL K H a xs:=.inl (.inl h)
theorem SqT.of {K:PySem.W.Frag} (h:H a=some (.tup xs)):SqT K H a xs:=.inl (.inl h)
theorem Inv.list (I:Inv X pins σ H s) (h:SqL X.K H a xs):∃ its:List Value,Vals xs its/\PlainL s.heap a its.toArray/\xs.length<=sizeLine:=by
 rcases h with h | ⟨o,its,n,hk,hc,hd,hs,hz,r⟩
 ·obtain ⟨z,its,n,r,e⟩:=h.ok I.hok
  exact ⟨its,r,⟨_,n,e,rfl,rfl,rfl⟩,z⟩
 ·refine ⟨its.toList,r,⟨o,n,I.kIn a o hk,hc,hd,by simpa using hs⟩,?_⟩
  have e:=r.length
  simp only [Array.length_toList] at e
  omega
theorem Inv.tuple (I:Inv X pins σ H s) (h:SqT X.K H a xs):∃ its:List Value,Vals xs its/\IsTup s.heap a its.toArray/\xs.length<=sizeLine:=by
 rcases h with h | ⟨o,its,n,hk,hc,hs,hz,r⟩
 ·obtain ⟨z,its,r,p⟩:=h.ok I.hok
  exact ⟨its,r,p,z⟩
 ·refine ⟨its.toList,r,⟨o,I.kIn a o hk,hc,n,by simpa using hs⟩,?_⟩
  have e:=r.length
  simp only [Array.length_toList] at e
  omega
theorem Inv.list_inj (I:Inv X pins σ H s) (h:SqL X.K H a xs) (h':SqL X.K H a ys):xs=ys:=by
 obtain ⟨its,r,⟨o,n,e,_,_,d⟩,_⟩:=I.list h
 obtain ⟨its',r',⟨o',n',e',_,_,d'⟩,_⟩:=I.list h'
 rw [e] at e';cases e'
 rw [d] at d'
 injection d' with d1 _
 have:its=its':=by simpa using congrArg Array.toList d1
 subst this
 exact r.inj r'
theorem Inv.tuple_inj (I:Inv X pins σ H s) (h:SqT X.K H a xs) (h':SqT X.K H a ys):xs=ys:=by
 obtain ⟨its,r,⟨o,e,_,n,d⟩,_⟩:=I.tuple h
 obtain ⟨its',r',⟨o',e',_,n',d'⟩,_⟩:=I.tuple h'
 rw [e] at e';cases e'
 rw [d] at d'
 injection d' with d1 _
 have:its=its':=by simpa using congrArg Array.toList d1
 subst this
 exact r.inj r'
end
abbrev Cx.wish (X:Cx) (E:Value->Shared->Prop):Cx:={ X with xe:=E }
abbrev Cx.nox (X:Cx):Cx:=X.wish fun _ _=>False
theorem Cx.Ok.wish {X:Cx} (ok:X.Ok) (E:Value->Shared->Prop):(X.wish E).Ok:=
 ⟨ok.mod,ok.kind,ok.glob,ok.blt,ok.above,ok.inj,ok.has,ok.cab,ok.hd,ok.frames,ok.stk,ok.exf,ok.bs,ok.bsz,ok.noex,ok.exfs,ok.funs,ok.frf⟩
theorem Cx.Ok.unwish {X:Cx} {E:Value->Shared->Prop} (ok:(X.wish E).Ok):X.Ok:=
 ⟨ok.mod,ok.kind,ok.glob,ok.blt,ok.above,ok.inj,ok.has,ok.cab,ok.hd,ok.frames,ok.stk,ok.exf,ok.bs,ok.bsz,ok.noex,ok.exfs,ok.funs,ok.frf⟩
section
variable {X:Cx} {pins:List (Addr × Obj)} {σ:St} {H:Hp} {s:Shared} {E:Value->Shared->Prop}
theorem Inv.wish (I:Inv X pins σ H s) (E:Value->Shared->Prop):Inv (X.wish E) pins σ H s:=⟨I.ok.wish E,I.os,I.bare,I.base,I.loc,I.cell,I.free,I.freeC,I.pin,I.hok,I.len⟩
theorem Inv.unwish (I:Inv (X.wish E) pins σ H s):Inv X pins σ H s:=⟨I.ok.unwish,I.os,I.bare,I.base,I.loc,I.cell,I.free,I.freeC,I.pin,I.hok,I.len⟩
theorem SP.unwish {D:Ends} {f:Flow} {s':Shared} (h:SP (X.wish E) pins D f s'):SP X pins D f s':=by
 cases f with
 | next=>obtain ⟨σ',H',I,q⟩:=h;exact ⟨σ',H',I.unwish,q⟩
 | brk=>obtain ⟨σ',H',I,q⟩:=h;exact ⟨σ',H',I.unwish,q⟩
 | cont=>obtain ⟨σ',H',I,q⟩:=h;exact ⟨σ',H',I.unwish,q⟩
 | ret u=>obtain ⟨v,σ',H',I,r,q⟩:=h;exact ⟨v,σ',H',I.unwish,r,q⟩
theorem PSs.nox {st:List Stmt} {t:TS} (h:PSs X.nox st t):PSs X st t:=fun pins s σ H D I hw=>
 wpAny_mono (h pins s σ H D (I.wish _) hw) (fun _ _ q=>q.unwish) fun _ _ z=>False.elim z
end
section
variable {X:Cx} {st:Stmt} {rest:List Stmt} {t u:TS} {e:Expr} {te:TE} {pos:Pos}
def tNext:TS:=fun D σ H=>D.nx σ H
def tSeq (t u:TS):TS:=fun D σ H=>t { D with nx:=u D } σ H
theorem pss_nil:PSs X [] tNext:=fun _ _ σ H _ I h=>wpAny_execs_nil ⟨σ,H,I,h⟩
theorem pss_cons (h1:PS X st t) (h2:PSs X rest u):PSs X (st :: rest) (tSeq t u):=by
 intro pins s σ H D I h
 refine wpAny_execs_cons (thn (h1 pins s σ H { D with nx:=u D } I h) fun f s1 q=>?_)
 cases f with
 | next=>
  obtain ⟨σ',H',I',q⟩:=q
  exact h2 pins s1 σ' H' D I' q
 | ret v=>exact q
 | brk=>exact q
 | cont=>exact q
theorem pss_one (h1:PS X st t):PSs X [st] t:=by
 intro pins s σ H D I h
 refine wpAny_execs_cons (thn (h1 pins s σ H D I h) fun f s1 q=>?_)
 cases f with
 | next=>exact wpAny_execs_nil q
 | ret v=>exact q
 | brk=>exact q
 | cont=>exact q
theorem Inv.quiet {pins:List (Addr × Obj)} {σ:St} {H:Hp} {s:Shared} (I:Inv X pins σ H s):interactive X.env=false:=by simp [interactive,I.ok.kind]
def tDrop (te:TE):TS:=fun D σ H=>te σ H fun _ H1=>D.nx σ H1
theorem ps_expr (he:PE X e te) (hs:swapsWith e none pos.line X.env=pure false:=by rfl):PS X (.Expr e pos) (tDrop te):=by
 intro pins s σ H D I h
 exact wpAny_Expr_any (thn (he pins s σ H _ I h) fun v s1 ⟨x,H1,I1,r1,q1⟩=>⟨σ,H1,I1,q1⟩) I.quiet hs
def tRet (te:TE):TS:=fun D σ H=>te σ H D.rt
theorem ps_ret (he:PE X e te):PS X (.Return (some e) pos) (tRet te):=by
 intro pins s σ H D I h
 exact wpAny_Return_some (thn (he pins s σ H _ I h) fun v s1 ⟨x,H1,I1,r1,q1⟩=>⟨x,σ,H1,I1,r1,q1⟩)
def tIfS (c:TT) (t u:TS):TS:=fun D σ H=>c σ H fun b H1=>if b=true then t D σ H1 else u D σ H1
theorem ps_if {c:Expr} {a b:List Stmt} {tc:TT} (hc:PT X c tc) (ha:PSs X a t) (hb:PSs X b u):PS X (.If c a b pos) (tIfS tc t u):=by
 intro pins s σ H D I h
 refine wpAny_If (thn (hc pins s σ H _ I h) fun d s1 ⟨H1,I1,q1⟩=>?_)
 cases d with
 | true=>exact ha pins s1 σ H1 D I1 q1
 | false=>exact hb pins s1 σ H1 D I1 q1
def tNever:TS:=fun _ _ _=>False
theorem pss_never {sts:List Stmt}:PSs X sts tNever:=fun _ _ _ _ _ _ h=>h.elim
end
abbrev TG:=V->St->Hp->(St->Hp->Prop)->Prop
abbrev TGs:=List V->St->Hp->(St->Hp->Prop)->Prop
def PG (X:Cx) (target:Expr) (t:TG):Prop:=
 ∀ (pins:List (Addr × Obj)) (s:Shared) (σ:St) (H:Hp) (v:V) (u:Value) (Q:St->Hp->Prop),Inv X pins σ H s->RelV v u->t v σ H Q →
  wpAny (model X.prog X.w) X.A (assign target X.env u) (fun _ s'=>∃ σ' H',Inv X pins σ' H' s'/\Q σ' H') X.xe s
def PGs (X:Cx) (ts:List Expr) (t:TGs):Prop:=
 ∀ (pins:List (Addr × Obj)) (s:Shared) (σ:St) (H:Hp) (vs:List V) (us:List Value) (Q:St->Hp->Prop),Inv X pins σ H s->Vals vs us->t vs σ H Q →
  wpAny (model X.prog X.w) X.A (assignInOrder ((assignEach ts X.env).map (·.2)) us) (fun _ s'=>∃ σ' H',Inv X pins σ' H' s'/\Q σ' H') X.xe s
abbrev TSet:=V->V->V->Hp->(Hp->Prop)->Prop
def PSet (X:Cx) (t:TSet):Prop:=
 ∀ (pins:List (Addr × Obj)) (s:Shared) (σ:St) (H:Hp) (o i v:V) (ov iv u:Value) (Q:Hp->Prop),Inv X pins σ H s->RelV o ov->RelV i iv->RelV v u->t o i v H Q →
  wpAny (model X.prog X.w) X.A (setItem ov iv u) (fun _ s'=>∃ H',Inv X pins σ H' s'/\Q H') X.xe s
section
variable {X:Cx} {pos:Pos}
def gName (i:Nat):TG:=fun v σ H Q=>Q (σ.set i (some v)) H
theorem pg_name {i:Nat} {x:Str} (hN:X.N.Nodup) (hi:X.N[i]?=some x) (hx:Loc X.env.scope x) (hf:X.fn x=true\/X.env.scope.names.lookup x=some .local:=by first | exact .inl rfl | exact .inr rfl | assumption):PG X (.Name x pos) (gName i):=by
 intro pins s σ H v u Q I r h
 exact wpAny_assign_Name (store_ok I hN hi hx r (fun s' I'=>⟨_,H,I',h⟩) hf)
def gNil:TGs:=fun vs σ H Q=>vs=[]/\Q σ H
def gCons (t:TG) (u:TGs):TGs:=fun vs σ H Q=>∃ v r,vs=v :: r/\t v σ H fun σ' H'=>u r σ' H' Q
theorem pgs_nil:PGs X [] gNil:=by
 intro pins s σ H vs us Q I r h
 obtain ⟨e,h⟩:=h
 subst e
 cases r
 exact assignInOrder_nil ⟨σ,H,I,h⟩
theorem pgs_cons {e:Expr} {es:List Expr} {t:TG} {u:TGs} (h1:PG X e t) (h2:PGs X es u)
  (hs:(assignEach (e :: es) X.env).map (·.2)=assign e X.env :: (assignEach es X.env).map (·.2):=by rfl):PGs X (e :: es) (gCons t u):=by
 intro pins s σ H vs us Q I r h
 obtain ⟨v,vr,e1,h⟩:=h
 subst e1
 cases r with
 | cons r rr=>
  rw [hs]
  refine assignInOrder_cons (thn (h1 pins s σ H _ _ _ I r h) fun _ s1 ⟨σ1,H1,I1,q1⟩=>?_)
  exact h2 pins s1 σ1 H1 _ _ Q I1 rr q1
def gTup (K:PySem.W.Frag) (n:Nat) (t:TGs):TG:=fun v σ H Q=>∃ a xs,v=.ref a/\SqT K H a xs/\xs.length=n/\t xs σ H Q
theorem pg_tup {es:List Expr} {k:Nat} {t:TGs} {n:Nat} (hc:X.calm=true) (h:PGs X es t)
  (hn:(assignEach es X.env).length=n:=by rfl) (hst:(assignEach es X.env).findIdx? (·.1)=none:=by rfl):PG X (.Tuple es k pos) (gTup X.K n t):=by
 intro pins s σ H v u Q I r hw
 obtain ⟨a,xs,e1,hq,hl,hw⟩:=hw
 subst e1
 cases r
 obtain ⟨its,rv,ht,hz⟩:=I.tuple hq
 refine assign_Tuple_tuple (I.ok.hd hc) ht (by simp [hn,<-hl,rv.length]) hst fun h' hx=>?_
 have I1:Inv X pins σ H { s with heap:=h' }:=I.kept (t':=s.toks) fun b o e=>hx b o (Nat.ne_of_lt (Heap.lt_size e)) e
 exact h pins _ σ H xs _ Q I1 (by simpa using rv) hw
def gSub (to ti:TE) (t:TSet):TG:=fun v σ H Q=>to σ H fun o H1=>ti σ H1 fun i H2=>t o i v H2 fun H3=>Q σ H3
theorem pg_sub {o i:Expr} {to ti:TE} {t:TSet} (ho:PE X o to) (hi:PE X i ti) (hs:PSet X t)
  (ha:∀ v,assign (.Subscript o i pos) X.env v=(do
   let ov <-holding [v] (eval o X.env)
   let iv <-holding [v,ov] (eval i X.env)
   standAt pos
   holding [v,ov,iv] (setItem ov iv v)
   release [v,ov,iv] []):=by intro _;rfl):PG X (.Subscript o i pos) (gSub to ti t):=by
 intro pins s σ H v u Q I r h
 rw [ha]
 refine wpAny_bind (wpAny_holding (thn (ho pins s σ H _ I h) fun ov s1 ⟨x,H1,I1,r1,q1⟩=>?_))
 refine wpAny_bind (wpAny_holding (thn (hi pins s1 σ H1 _ I1 q1) fun iv s2 ⟨y,H2,I2,r2,q2⟩=>?_))
 refine wpAny_bind (wpAny_standAt (wpAny_bind (wpAny_holding (thn (hs pins s2 σ H2 x y v ov iv u _ I2 r1 r2 r q2) fun _ s3 ⟨H3,I3,q3⟩=>?_))))
 exact wpAny_release ⟨σ,H3,I3,q3⟩
def tAsg (te:TE) (g:TG):TS:=fun D σ H=>te σ H fun x H1=>g x σ H1 D.nx
theorem ps_asg {tg e:Expr} {te:TE} {g:TG} (he:PE X e te) (hg:PG X tg g) (hs:swapsWithSole [tg] e pos.line X.env=pure false:=by rfl) (hw:swappedStores [tg] e X.env=pure none:=by rfl)
  (h1:(assignEach [tg] X.env).map (·.2)=[assign tg X.env]:=by rfl):PS X (.Assign [tg] e pos) (tAsg te g):=by
 intro pins s σ H D I h
 refine wpAny_Assign_stores (thn (he pins s σ H _ I h) fun v s1 ⟨x,H1,I1,r1,q1⟩=>?_) hs hw
 rw [h1]
 exact thn (hg pins s1 σ H1 x v _ I1 r1 q1) fun _ s2 q=>q
theorem ps_set {i:Nat} {x:Str} {e:Expr} {te:TE} {pos':Pos} (hN:X.N.Nodup) (hi:X.N[i]?=some x) (hx:Loc X.env.scope x) (he:PE X e te) (hs:swapsWith e (some (.Name x pos')) pos.line X.env=pure false:=by rfl) (hf:X.fn x=true\/X.env.scope.names.lookup x=some .local:=by first | exact .inl rfl | exact .inr rfl | assumption) :
  PS X (.Assign [.Name x pos'] e pos) (tAsg te (gName i)):=by
 intro pins s σ H D I h
 refine wpAny_Assign_Name (thn (he pins s σ H _ I h) fun v s1 ⟨y,H1,I1,r1,q1⟩=>?_) hs
 exact store_ok I1 hN hi hx r1 (fun s2 I2=>⟨_,H1,I2,q1⟩) hf
end
section
variable {X:Cx} {pos:Pos}
def tWhile (c:TT) (tb:TS):TS:=fun D σ H=>∃ W:Nat->St->Hp->Prop,(∃ m,W m σ H)/\∀ m σ H,W m σ H →
 c σ H fun b H1=>if b=true then ∃ N:St->Hp->Prop,(∀ σ' H',N σ' H'->∃ m',m' < m/\W m' σ' H')/\tb { D with nx:=N,ct:=N,bk:=D.nx } σ H1 else D.nx σ H1
theorem ps_while {c:Expr} {body:List Stmt} {tc:TT} {tb:TS} (hp:PassesOwn (model X.prog X.w) X.A X.env X.xe) (hc:PT X c tc) (hb:PSs X body tb):PS X (.While c body [] pos) (tWhile tc tb):=by
 intro pins s σ H D I h
 obtain ⟨W,⟨m0,w0⟩,turn⟩:=h
 refine wpAny_While (codeAny_whileLoop (fun n s'=>∃ σ' H',Inv X pins σ' H' s'/\W n σ' H') ?_ m0 ⟨σ,H,I,w0⟩)
 rintro n s1 ⟨σ1,H1,I1,w1⟩
 refine wpAny_passesOwn hp (thn (hc pins s1 σ1 H1 _ I1 (turn n σ1 H1 w1)) fun b s2 ⟨H2,I2,q2⟩=>?_)
 cases b with
 | true=>
  obtain ⟨N,hN,q2⟩:=q2
  rw [if_pos rfl]
  refine wpAny_passesOwn hp (thn (hb pins s2 σ1 H2 _ I2 q2) fun f s3 q3=>?_)
  cases f with
  | next=>
   obtain ⟨σ3,H3,I3,n3⟩:=q3
   obtain ⟨m',hm,w3⟩:=hN σ3 H3 n3
   exact ⟨m',hm,σ3,H3,I3,w3⟩
  | cont=>
   obtain ⟨σ3,H3,I3,n3⟩:=q3
   obtain ⟨m',hm,w3⟩:=hN σ3 H3 n3
   exact ⟨m',hm,σ3,H3,I3,w3⟩
  | brk=>exact q3
  | ret v=>exact q3
 | false=>
  rw [if_neg Bool.false_ne_true]
  exact wpAny_execs_nil ⟨σ1,H2,I2,q2⟩
end
structure It where
 go:Nat->Hp->Prop
 yld:Nat->Hp->V->Hp->Prop
 stop:Nat->Hp->Prop
def FpOk (X:Cx) (pins:List (Addr × Obj)) (H:Hp) (b:Addr):Prop:=
 H b=none/\b ≠ X.env.locals/\b ∉ X.fs/\(b ∈ X.ex\/X.s₀.heap.objs.size<=b)/\(∀ x c,X.env.cells.lookup x=some c->c ≠ b)/\∀ p ∈ X.pn++pins,p.1 ≠ b
theorem Inv.fpOk {X:Cx} {pins:List (Addr × Obj)} {σ:St} {H H':Hp} {s:Shared} {b:Addr} (I:Inv X pins σ H s) (hb:s.heap.objs.size<=b) (hn:H' b=none):FpOk X pins H' b:=by
 refine ⟨hn,Nat.ne_of_gt (Nat.lt_of_lt_of_le I.lt hb),I.nofs hb,.inr (Nat.le_trans I.sz hb),fun x c e z=>?_,fun p hp z=>?_⟩
 ·obtain ⟨v,q⟩:=I.cell x c e
  exact absurd (Nat.lt_of_lt_of_le q.lt (by rw [z];exact hb)) (Nat.lt_irrefl _)
 ·exact absurd (Nat.lt_of_lt_of_le (Heap.lt_size (I.pin p hp).1) (by rw [z];exact hb)) (Nat.lt_irrefl _)
structure Turn (P:Program) (w:World) (K:PySem.W.Frag) (tg:Expr) (J:It) (fp:List Addr) (it:Addr) (tn:Nat->Heap->Prop):Prop where
 mem:it ∈ fp
 obj:∀ i h,tn i h->∀ b ∈ fp,∃ o,h.get? b=some o/\∀ v,o.data ≠ .cell v
 keep:∀ i h h',tn i h->(∀ b ∈ fp,∀ o,h.get? b=some o->h'.get? b=some o)->tn i h'
 item:∀ (X:Cx),X.prog=P->X.w=w->X.K=K->X.calm=true->∀ (i:Nat) (pins:List (Addr × Obj)) (s:Shared) (σ:St) (H:Hp) (E:Value->Shared->Prop),Inv X pins σ H s->(∀ b ∈ fp,FpOk X pins H b)->tn i s.heap->J.go i H →
  wpAny (model P w) X.A (pyNext (.ref it)) (fun r s1=>∃ u,r=some u ∧
   wpAny (model P w) X.A (letOwnedTupleGo tg (.ref it) u) (fun _ s2=>∃ x H',Inv X pins σ H' s2/\RelV x u/\J.yld i H x H'/\tn (i+1) s2.heap/\∀ b ∈ fp,H' b=none) E s1) E s
 done:∀ (X:Cx),X.prog=P->X.w=w->X.K=K->X.calm=true->∀ (i:Nat) (pins:List (Addr × Obj)) (s:Shared) (σ:St) (H:Hp) (E:Value->Shared->Prop),Inv X pins σ H s->(∀ b ∈ fp,FpOk X pins H b)->tn i s.heap->J.stop i H →
  wpAny (model P w) X.A (pyNext (.ref it)) (fun r s1=>r=none/\Inv X pins σ H s1) E s
 self:∀ (A:Around) (i:Nat) (s:Shared) (Q:Value->Shared->Prop) (E:Value->Shared->Prop),tn i s.heap->Q (.ref it) s->wpAny (model P w) A (pyIter (.ref it)) Q E s
abbrev TI:=St->Hp->(It->Hp->Prop)->Prop
def PIE (X:Cx) (pins:List (Addr × Obj)) (σ:St) (tg:Expr) (R:It->Hp->Prop) (itv:Value) (s2:Shared):Prop:=
 ∃ (it:Addr) (fp:List Addr) (tn:Nat->Heap->Prop) (J:It) (H':Hp),itv=.ref it/\Inv X pins σ H' s2/\Turn X.prog X.w X.K tg J fp it tn/\tn 0 s2.heap/\(∀ b ∈ fp,FpOk X pins H' b)/\R J H'
def PI (X:Cx) (tg iter:Expr) (wi:TI):Prop:=
 ∀ (pins:List (Addr × Obj)) (s:Shared) (σ:St) (H:Hp) (R:It->Hp->Prop),Inv X pins σ H s->wi σ H R →
  wpAny (model X.prog X.w) X.A (eval iter X.env) (fun v s1=>wpAny (model X.prog X.w) X.A (pyIter v) (PIE X pins σ tg R) X.xe s1) X.xe s
theorem go_of {M:Model} {A:Around} {E:Value->Shared->Prop} {s:Shared} {tg:Expr} {it:Addr} {u:Value} {o:Obj} {n:String} {vs:Array Value} {Q:Unit->Shared->Prop} (ho:s.heap.get? it=some o) (hc:o.cls=.type n) (hd:o.data=.fields vs)
    (hn:["enumerate","zip","dict_itemiterator","dict_reverseitemiterator","odict_iterator","itertools.zip_longest","itertools.pairwise"].contains n=false) (hQ:Q () s):wpAny M A (letOwnedTupleGo tg (.ref it) u) Q E s:=by
  unfold letOwnedTupleGo
  cases tg <;> first
    | exact wpAny_pure hQ
    | (cases u <;> first
        | exact wpAny_pure hQ
        | (refine wpAny_bind (wpAny_load ho ?_)
           rw [hc,hd]
           show wpAny M A (if (["enumerate","zip","dict_itemiterator","dict_reverseitemiterator","odict_iterator","itertools.zip_longest","itertools.pairwise"].contains n && vs[0]? == some (rawInt _))=true then _ else _) Q E s
           rw [if_neg (by intro h;rw [hn,Bool.false_and] at h;cases h)]
           exact wpAny_pure hQ))
def Itl (K:PySem.W.Frag) (a:Addr):It:=
 ⟨fun i H=>∃ xs x,SqL K H a xs/\xs[i]?=some x,fun i H x H'=>H'=H/\∀ xs,SqL K H a xs->xs[i]?=some x,fun i H=>∃ xs,SqL K H a xs/\xs.length<=i⟩
def Itt (K:PySem.W.Frag) (a:Addr):It:=
 ⟨fun i H=>∃ xs x,SqT K H a xs/\xs[i]?=some x,fun i H x H'=>H'=H/\∀ xs,SqT K H a xs->xs[i]?=some x,fun i H=>∃ xs,SqT K H a xs/\xs.length<=i⟩
def Itr (lo:Int) (n:Nat):It:=⟨fun i _=>i < n,fun i H x H'=>H'=H/\x=.int (lo+i),fun i _=>n<=i⟩
theorem turn_list {P:Program} {w:World} {K:PySem.W.Frag} {tg:Expr} (a it:Addr):Turn P w K tg (Itl K a) [it] it (fun i h=>h.IsListIter it a i) where
 mem:=by simp
 obj:=fun i h st b hb=>by
  have e:b=it:=by simpa using hb
  subst e
  obtain ⟨o,e,c,d⟩:=st
  exact ⟨o,e,fun v z=>by rw [d] at z;cases z⟩
 keep:=fun i h h' st k=>st.at fun o e=>k it (by simp) o e
 item:=by
  intro X hP hw hK hc i pins s σ H E I hf st hg
  subst hP hw hK
  obtain ⟨xs,x,hq,hx⟩:=hg
  obtain ⟨its,rv,p,hz⟩:=I.list hq
  obtain ⟨u,hu,ru⟩:=rv.get hx
  obtain ⟨f0,f1,f2,f3,f4,f5⟩:=hf it (by simp)
  refine wpAny_pyNext_list_item st p.isList (x:=u) (by simpa using hu) fun h' st' sb=>?_
  have I1:Inv X pins σ H { s with heap:=h' }:=I.turned (t':=s.toks) (fun b o hb e=>(sb.2 b hb).trans e) f0 f1 f3 f4 f5
  obtain ⟨o,e,c,d⟩:=id st'
  exact ⟨u,rfl,go_of (s:={ s with heap:=h' }) e c d (by decide) ⟨x,H,I1,ru,⟨rfl,fun ys hy=>by rw [I.list_inj hy hq];exact hx⟩,st',fun b hb=>(hf b hb).1⟩⟩
 done:=by
  intro X hP hw hK hc i pins s σ H E I hf st hg
  subst hP hw hK
  obtain ⟨xs,hq,hx⟩:=hg
  obtain ⟨its,rv,p,hz⟩:=I.list hq
  obtain ⟨f0,f1,f2,f3,f4,f5⟩:=hf it (by simp)
  have hl:=rv.length
  exact wpAny_pyNext_list_end (I.ok.hd hc) st p.isList (by simp;omega) fun h' eb=>⟨rfl,I.turned (t':=s.toks) (fun b o hb e=>eb b o hb e) f0 f1 f3 f4 f5⟩
 self:=fun _ _ _ _ _ st h=>wpAny_pyIter_listiter st h
theorem turn_tuple {P:Program} {w:World} {K:PySem.W.Frag} {tg:Expr} (a it:Addr):Turn P w K tg (Itt K a) [it] it (fun i h=>h.IsTupleIter it a i) where
 mem:=by simp
 obj:=fun i h st b hb=>by
  have e:b=it:=by simpa using hb
  subst e
  obtain ⟨o,e,c,d⟩:=st
  exact ⟨o,e,fun v z=>by rw [d] at z;cases z⟩
 keep:=fun i h h' st k=>st.at fun o e=>k it (by simp) o e
 item:=by
  intro X hP hw hK hc i pins s σ H E I hf st hg
  subst hP hw hK
  obtain ⟨xs,x,hq,hx⟩:=hg
  obtain ⟨its,rv,p,hz⟩:=I.tuple hq
  obtain ⟨u,hu,ru⟩:=rv.get hx
  obtain ⟨f0,f1,f2,f3,f4,f5⟩:=hf it (by simp)
  refine wpAny_pyNext_tuple_item st (show s.heap.IsTuple a its.toArray from p) (x:=u) (by simpa using hu) fun h' st' sb=>?_
  have I1:Inv X pins σ H { s with heap:=h' }:=I.turned (t':=s.toks) (fun b o hb e=>(sb.2 b hb).trans e) f0 f1 f3 f4 f5
  obtain ⟨o,e,c,d⟩:=id st'
  exact ⟨u,rfl,go_of (s:={ s with heap:=h' }) e c d (by decide) ⟨x,H,I1,ru,⟨rfl,fun ys hy=>by rw [I.tuple_inj hy hq];exact hx⟩,st',fun b hb=>(hf b hb).1⟩⟩
 done:=by
  intro X hP hw hK hc i pins s σ H E I hf st hg
  subst hP hw hK
  obtain ⟨xs,hq,hx⟩:=hg
  obtain ⟨its,rv,p,hz⟩:=I.tuple hq
  obtain ⟨f0,f1,f2,f3,f4,f5⟩:=hf it (by simp)
  have hl:=rv.length
  exact wpAny_pyNext_tuple_end (I.ok.hd hc) st (show s.heap.IsTuple a its.toArray from p) (by simp;omega) fun h' eb=>⟨rfl,I.turned (t':=s.toks) (fun b o hb e=>eb b o hb e) f0 f1 f3 f4 f5⟩
 self:=fun _ _ _ _ _ st h=>wpAny_pyIter_tupleiter st h
theorem turn_range {P:Program} {w:World} {K:PySem.W.Frag} {tg:Expr} (it:Addr) (lo:Int) (n:Nat):Turn P w K tg (Itr lo n) [it] it (fun i h=>IsRangeIter h it (lo+(i:Nat) * 1) ((n:Int) - (i:Nat)) 1) where
 mem:=by simp
 obj:=fun i h st b hb=>by
  have e:b=it:=by simpa using hb
  subst e
  exact ⟨_,st,fun v z=>by
   have z':Data.fields _=Data.cell v:=z
   cases z'⟩
 keep:=fun i h h' st k=>k it (by simp) _ st
 item:=by
  intro X hP hw hK hc i pins s σ H E I hf st hg
  subst hP hw hK
  obtain ⟨f0,f1,f2,f3,f4,f5⟩:=hf it (by simp)
  have W:=Walks.range (prog:=X.prog) (w:=X.w) (I.ok.hd hc) it lo 1 n
  refine W.item i s _ _ hg st fun v h' tk hv st' kk=>?_
  obtain ⟨t,rfl⟩:=hv
  have I1:Inv X pins σ H { s with heap:=h',toks:=tk }:=I.turned (fun b o hb e=>kk b o (by simpa using hb) e) f0 f1 f3 f4 f5
  refine ⟨_,rfl,go_of (s:={ s with heap:=h',toks:=tk }) (n := "range_iterator") st' rfl rfl (by decide) ⟨.int (lo+i),H,I1,⟨t,?_⟩,⟨rfl,rfl⟩,st',fun b hb=>(hf b hb).1⟩⟩
  rw [Int.mul_one]
 done:=by
  intro X hP hw hK hc i pins s σ H E I hf st hg
  subst hP hw hK
  obtain ⟨f0,f1,f2,f3,f4,f5⟩:=hf it (by simp)
  exact wpAny_pyNext_range_end (I.ok.hd hc) st (by have:n<=i:=hg;omega) fun h' eb=>⟨rfl,I.turned (t':=s.toks) (fun b o hb e=>eb b o hb e) f0 f1 f3 f4 f5⟩
 self:=fun _ _ _ _ _ st h=>wpAny_pyIter_rangeiter st h
end L2
namespace L2
open PySem PySem.Spec PyProof.Rows
section
variable {X:Cx} {tg:Expr}
def iList (K:PySem.W.Frag) (tl:TE):TI:=fun σ H R=>tl σ H fun x H1=>∃ a,x=.ref a/\(∃ xs,SqL K H1 a xs)/\R (Itl K a) H1
def iTup (K:PySem.W.Frag) (tl:TE):TI:=fun σ H R=>tl σ H fun x H1=>∃ a,x=.ref a/\(∃ xs,SqT K H1 a xs)/\R (Itt K a) H1
theorem pi_list {l:Expr} {tl:TE} (hl:PE X l tl):PI X tg l (iList X.K tl):=by
 intro pins s σ H R I h
 refine thn (hl pins s σ H _ I h) fun v s1 ⟨x,H1,I1,r1,q1⟩=>?_
 obtain ⟨a,e,⟨xs,hq⟩,q⟩:=q1
 subst e
 cases r1
 obtain ⟨its,rv,p,hz⟩:=I1.list hq
 refine wpAny_pyIter_list p.isList ?_
 refine ⟨s1.heap.objs.size,[s1.heap.objs.size],_,_,H1,rfl,I1.kept (t':=s1.toks) fun b o e=>Heap.get?_push_of_some _ e,turn_list a _,⟨_,Heap.get?_push_size _ rfl,rfl,rfl⟩,fun b hb=>?_,q⟩
 have e:b=s1.heap.objs.size:=by simpa using hb
 subst e
 exact I1.fpOk (Nat.le_refl _) (I1.hok.fresh (Nat.le_refl _))
theorem pi_tup {l:Expr} {tl:TE} (hl:PE X l tl):PI X tg l (iTup X.K tl):=by
 intro pins s σ H R I h
 refine thn (hl pins s σ H _ I h) fun v s1 ⟨x,H1,I1,r1,q1⟩=>?_
 obtain ⟨a,e,⟨xs,hq⟩,q⟩:=q1
 subst e
 cases r1
 obtain ⟨its,rv,p,hz⟩:=I1.tuple hq
 refine wpAny_pyIter_tuple (show s1.heap.IsTuple a its.toArray from p) ?_
 refine ⟨s1.heap.objs.size,[s1.heap.objs.size],_,_,H1,rfl,I1.kept (t':=s1.toks) fun b o e=>Heap.get?_push_of_some _ e,turn_tuple a _,⟨_,Heap.get?_push_size _ rfl,rfl,rfl⟩,fun b hb=>?_,q⟩
 have e:b=s1.heap.objs.size:=by simpa using hb
 subst e
 exact I1.fpOk (Nat.le_refl _) (I1.hok.fresh (Nat.le_refl _))
theorem range_it {pins:List (Addr × Obj)} {σ:St} {H:Hp} {s:Shared} {R:It->Hp->Prop} {E:Value->Shared->Prop} {lo hi:Int} {t u v:Tok} {tk:Nat} (I:Inv X pins σ H s) (h1:-(2 ^ 62)<=lo) (h2:lo < 2 ^ 62) (h3:-(2 ^ 62)<=hi) (h4:hi < 2 ^ 62)
  (q:R (Itr lo (hi - lo).toNat) H):wpAny (model X.prog X.w) X.A (pyIter (.ref s.heap.objs.size)) (PIE X pins σ tg R) E { s with heap:=s.heap.push { cls:=.type "range",data:=.fields #[.int lo t,.int hi u,.int 1 v] },toks:=tk }:=by
 refine wpAny_pyIter_range (IsRange.new ..) (small_one h1 h2 h3 h4) ?_
 have I1:Inv X pins σ H { s with heap:=s.heap.push { cls:=.type "range",data:=.fields #[.int lo t,.int hi u,.int 1 v] },toks:=tk }:=I.kept fun b o e=>Heap.get?_push_of_some _ e
 refine ⟨(s.heap.push { cls:=.type "range",data:=.fields #[.int lo t,.int hi u,.int 1 v] }).objs.size,[(s.heap.push { cls:=.type "range",data:=.fields #[.int lo t,.int hi u,.int 1 v] }).objs.size],_,_,H,rfl,
  I1.kept (t':=tk) fun b o e=>Heap.get?_push_of_some _ e,turn_range _ lo (hi - lo).toNat,?_,fun b hb=>?_,q⟩
 ·have e1:lo+((0:Nat):Int) * 1=lo:=by simp
  have e2:(((hi - lo).toNat:Nat):Int) - ((0:Nat):Int)=Builtin.Range.rangeSize lo hi 1:=by rw [rangeSize_one];split <;> omega
  show IsRangeIter _ _ (lo+((0:Nat):Int) * 1) ((((hi - lo).toNat:Nat):Int) - ((0:Nat):Int)) 1
  rw [e1,e2]
  exact Heap.get?_push_size _ rfl
 ·have e:b=(s.heap.push { cls:=.type "range",data:=.fields #[.int lo t,.int hi u,.int 1 v] }).objs.size:=by simpa using hb
  subst e
  exact I1.fpOk (Nat.le_refl _) (I1.hok.fresh (Nat.le_refl _))
def iRng1 (ta:TA):TI:=fun σ H R=>ta σ H fun vs H1=>∃ j:Int,vs=[.int j]/\-(2 ^ 62)<=j/\j < 2 ^ 62/\R (Itr 0 j.toNat) H1
def iRng2 (ta:TA):TI:=fun σ H R=>ta σ H fun vs H1=>∃ i j:Int,vs=[.int i,.int j]/\(-(2 ^ 62)<=i/\i < 2 ^ 62/\-(2 ^ 62)<=j/\j < 2 ^ 62)/\R (Itr i (j - i).toNat) H1
theorem pi_range1 {a:Expr} {ta:TA} {p pos:Pos} (hg:Gl X "range") (hm:X.mg "range" = none) (ha:PA X [a] ta) (hs:starEach [a] X.env=[(false,eval a X.env)]:=by rfl):PI X tg (.Call (.Name "range" p) [a] [] pos) (iRng1 ta):=by
 intro pins s σ H R I h
 refine Call_ (ld_blt I hg hm boot_range (PyProof.Rows.callWith_type1 (thn (ha pos pins s σ H _ I h) fun us s1 ⟨vs,H1,I1,r1,q1⟩=>?_) hs rfl))
 obtain ⟨j,e,q1,q2,q⟩:=q1
 subst e
 cases r1 with
 | cons r rr=>
  cases rr
  obtain ⟨t,rfl⟩:=r
  exact call_range_1 (range_it I1 (by omega) (by omega) q1 q2 (by simpa using q))
theorem pi_range2 {a b:Expr} {ta:TA} {p pos:Pos} (hg:Gl X "range") (hm:X.mg "range" = none) (ha:PA X [a,b] ta) (hs:starEach [a,b] X.env=[(false,eval a X.env),(false,eval b X.env)]:=by rfl) (hs2:starEach [b] X.env=[(false,eval b X.env)]:=by rfl) :
  PI X tg (.Call (.Name "range" p) [a,b] [] pos) (iRng2 ta):=by
 intro pins s σ H R I h
 refine Call_ (ld_blt I hg hm boot_range (PyProof.Rows.callWith_type1 (thn (ha pos pins s σ H _ I h) fun us s1 ⟨vs,H1,I1,r1,q1⟩=>?_) (by rw [hs,hs2]) (by rw [hs2];rfl)))
 obtain ⟨i,j,e,⟨q1,q2,q3,q4⟩,q⟩:=q1
 subst e
 cases r1 with
 | cons r rr=>
  cases rr with
  | cons r' rr=>
   cases rr
   obtain ⟨t,rfl⟩:=r
   obtain ⟨t',rfl⟩:=r'
   exact call_range_2 (range_it I1 q1 q2 q3 q4 q)
def tFor (wi:TI) (g:TG) (tb:TS):TS:=fun D σ H=>wi σ H fun J H1=>∃ W:Nat->Nat->St->Hp->Prop,(∃ m,W 0 m σ H1)/\∀ i m σ H,W i m σ H →
 (J.stop i H/\D.nx σ H)\/(J.go i H/\∃ N:St->Hp->Prop,(∀ σ' H',N σ' H'->∃ m',m' < m/\W (i+1) m' σ' H')/\∀ x H',J.yld i H x H'->g x σ H' fun σ2 H2=>tb { D with nx:=N,ct:=N,bk:=D.nx } σ2 H2)
def pinsAt (fp:List Addr) (h:Heap):List (Addr × Obj):=fp.filterMap fun b=>(h.get? b).map fun o=>(b,o)
theorem mem_pinsAt {fp:List Addr} {h:Heap} {b:Addr} {o:Obj} (hb:b ∈ fp) (e:h.get? b=some o):(b,o) ∈ pinsAt fp h:=List.mem_filterMap.mpr ⟨b,hb,by rw [e];rfl⟩
theorem of_pinsAt {fp:List Addr} {h:Heap} {p:Addr × Obj} (hp:p ∈ pinsAt fp h):p.1 ∈ fp/\h.get? p.1=some p.2:=by
 obtain ⟨b,hb,e⟩:=List.mem_filterMap.mp hp
 cases q:h.get? b with
 | none=>rw [q] at e;cases e
 | some o=>
  rw [q] at e
  have e':(b,o)=p:=Option.some.inj e
  subst e'
  exact ⟨hb,q⟩
theorem Inv.pinned {pins:List (Addr × Obj)} {σ:St} {H:Hp} {s:Shared} {fp:List Addr} (I:Inv X pins σ H s) (hf:∀ b ∈ fp,FpOk X pins H b) (ho:∀ b ∈ fp,∃ o,s.heap.get? b=some o/\∀ v,o.data ≠ .cell v):Inv X (pins++pinsAt fp s.heap) σ H s:=
 I.pins_of fun p hp=>(List.mem_append.mp hp).elim (fun z=>I.pin p (List.mem_append_right _ z)) fun z=>by
  obtain ⟨hb,e⟩:=of_pinsAt z
  obtain ⟨f0,f1,f2,_⟩:=hf p.1 hb
  obtain ⟨o,e',d⟩:=ho p.1 hb
  rw [e] at e';cases e'
  exact ⟨e,f0,f1,f2,d⟩
theorem Inv.unpinned {pins pl:List (Addr × Obj)} {σ:St} {H:Hp} {s:Shared} (I:Inv X (pins++pl) σ H s):Inv X pins σ H s:=I.pins_of fun p hp=>I.pin p (List.mem_append_right _ (List.mem_append_left _ hp))
theorem ps_for {iter:Expr} {body:List Stmt} {wi:TI} {g:TG} {tb:TS} {pos:Pos} (hp:PassesOwn (model X.prog X.w) X.A X.env X.xe) (hc:X.calm=true) (hi:PI X tg iter wi) (hg:PG X tg g) (hb:PSs X body tb)
  (hs:∀ x,foldedSetIterable iter X.env x=pure x:=by intro _;rfl):PS X (.For tg iter body [] pos) (tFor wi g tb):=by
 intro pins s σ H D I h
 refine wpAny_For (thn (hi pins s σ H _ I h) fun v s1 h1=>thn h1 fun itv s2 h2=>?_) hs
 obtain ⟨it,fp,tn,J,H2,e,I2,T,st2,f2,W,⟨m0,w0⟩,turn⟩:=h2
 subst e
 -- what stays true of the iterator's objects through the loop
 have stat:∀ {H':Hp},(∀ b ∈ fp,H' b=none)->∀ b ∈ fp,FpOk X pins H' b:=fun hn b hb=>⟨hn b hb,(f2 b hb).2⟩
 refine codeAny_forLoop_any (fun n s'=>∃ i σ' H',Inv X pins σ' H' s'/\tn i s'.heap/\(∀ b ∈ fp,H' b=none)/\W i n σ' H') ?_ m0 ⟨0,σ,H2,I2,st2,fun b hb=>(f2 b hb).1,w0⟩
 rintro n s3 ⟨i,σ3,H3,I3,st3,fr3,w3⟩
 rcases turn i n σ3 H3 w3 with ⟨stop,qn⟩ | ⟨go,N,hN,step⟩
 ·refine wpAny_passesOwn hp (thn (T.done X rfl rfl rfl hc i pins s3 σ3 H3 X.xe I3 (stat fr3) st3 stop) fun r s4 ⟨hr,I4⟩=>?_)
  subst hr
  exact wpAny_execs_nil ⟨σ3,H3,I4,qn⟩
 ·refine wpAny_passesOwn hp (thn (T.item X rfl rfl rfl hc i pins s3 σ3 H3 X.xe I3 (stat fr3) st3 go) fun r s4 ⟨u,hr,h4⟩=>?_)
  subst hr
  refine wpAny_passesOwn hp (thn h4 fun _ s5 ⟨x,H5,I5,r5,y5,st5,fr5⟩=>?_)
  have I5':=I5.pinned (stat fr5) (T.obj _ _ st5)
  refine wpAny_passesOwn hp (thn (hg _ s5 σ3 H5 x u _ I5' r5 (step x H5 y5)) fun _ s6 ⟨σ6,H6,I6,q6⟩=>?_)
  refine wpAny_passesOwn hp (thn (hb _ s6 σ6 H6 _ I6 q6) fun f s7 q7=>?_)
  have again:∀ {σ7:St} {H7:Hp},Inv X (pins++pinsAt fp s5.heap) σ7 H7 s7->N σ7 H7->∃ m,m < n/\∃ i σ' H',Inv X pins σ' H' s7/\tn i s7.heap/\(∀ b ∈ fp,H' b=none)/\W i m σ' H':=fun {σ7 H7} I7 n7=>by
   obtain ⟨m',hm,w7⟩:=hN σ7 H7 n7
   refine ⟨m',hm,i+1,σ7,H7,I7.unpinned,T.keep _ _ _ st5 fun b hb o e=>(I7.pin (b,o) (List.mem_append_right _ (List.mem_append_right _ (mem_pinsAt hb e)))).1,fun b hb=>?_,w7⟩
   obtain ⟨o,e,d⟩:=T.obj _ _ st5 b hb
   exact (I7.pin (b,o) (List.mem_append_right _ (List.mem_append_right _ (mem_pinsAt hb e)))).2.1
  cases f with
  | next=>obtain ⟨σ7,H7,I7,n7⟩:=q7;exact again I7 n7
  | cont=>obtain ⟨σ7,H7,I7,n7⟩:=q7;exact again I7 n7
  | brk=>obtain ⟨σ7,H7,I7,q7⟩:=q7;exact ⟨σ7,H7,I7.unpinned,q7⟩
  | ret v=>obtain ⟨x7,σ7,H7,I7,r7,q7⟩:=q7;exact ⟨x7,σ7,H7,I7.unpinned,r7,q7⟩
end
theorem for_list {K:PySem.W.Frag} {a:Addr} {xs:List V} {g:TG} {tb:TS} {D:Ends} {σ:St} {H:Hp} (Pv:Nat->St->Hp->Prop) (h0:Pv 0 σ H) (hl:∀ i σ H,i<=xs.length->Pv i σ H->SqL K H a xs)
  (hs:∀ i x σ H,xs[i]?=some x->Pv i σ H->g x σ H fun σ2 H2=>tb { D with nx:=Pv (i+1),ct:=Pv (i+1),bk:=D.nx } σ2 H2) (hd:∀ σ H,Pv xs.length σ H->D.nx σ H) :
  ∃ W:Nat->Nat->St->Hp->Prop,(∃ m,W 0 m σ H)/\∀ i m σ H,W i m σ H →
   ((Itl K a).stop i H/\D.nx σ H)\/((Itl K a).go i H/\∃ N:St->Hp->Prop,(∀ σ' H',N σ' H'->∃ m',m' < m/\W (i+1) m' σ' H')/\∀ x H',(Itl K a).yld i H x H'->g x σ H' fun σ2 H2=>tb { D with nx:=N,ct:=N,bk:=D.nx } σ2 H2):=by
 refine ⟨fun i m σ H=>m=xs.length - i/\i<=xs.length/\Pv i σ H,⟨xs.length,by simp,Nat.zero_le _,h0⟩,?_⟩
 rintro i m σ H ⟨rfl,hi,p⟩
 have q:=hl i σ H hi p
 by_cases hlt:i < xs.length
 ·refine .inr ⟨⟨xs,xs[i],q,by simp [hlt]⟩,Pv (i+1),fun σ' H' p'=>⟨xs.length - (i+1),by omega,rfl,hlt,p'⟩,fun x H' y=>?_⟩
  obtain ⟨e,y⟩:=y
  subst e
  exact hs i x σ _ (y xs q) p
 ·have e:i=xs.length:=by omega
  subst e
  exact .inl ⟨⟨xs,q,Nat.le_refl _⟩,hd σ H p⟩
theorem for_tup {K:PySem.W.Frag} {a:Addr} {xs:List V} {g:TG} {tb:TS} {D:Ends} {σ:St} {H:Hp} (Pv:Nat->St->Hp->Prop) (h0:Pv 0 σ H) (hl:∀ i σ H,i<=xs.length->Pv i σ H->SqT K H a xs)
  (hs:∀ i x σ H,xs[i]?=some x->Pv i σ H->g x σ H fun σ2 H2=>tb { D with nx:=Pv (i+1),ct:=Pv (i+1),bk:=D.nx } σ2 H2) (hd:∀ σ H,Pv xs.length σ H->D.nx σ H) :
  ∃ W:Nat->Nat->St->Hp->Prop,(∃ m,W 0 m σ H)/\∀ i m σ H,W i m σ H →
   ((Itt K a).stop i H/\D.nx σ H)\/((Itt K a).go i H/\∃ N:St->Hp->Prop,(∀ σ' H',N σ' H'->∃ m',m' < m/\W (i+1) m' σ' H')/\∀ x H',(Itt K a).yld i H x H'->g x σ H' fun σ2 H2=>tb { D with nx:=N,ct:=N,bk:=D.nx } σ2 H2):=by
 refine ⟨fun i m σ H=>m=xs.length - i/\i<=xs.length/\Pv i σ H,⟨xs.length,by simp,Nat.zero_le _,h0⟩,?_⟩
 rintro i m σ H ⟨rfl,hi,p⟩
 have q:=hl i σ H hi p
 by_cases hlt:i < xs.length
 ·refine .inr ⟨⟨xs,xs[i],q,by simp [hlt]⟩,Pv (i+1),fun σ' H' p'=>⟨xs.length - (i+1),by omega,rfl,hlt,p'⟩,fun x H' y=>?_⟩
  obtain ⟨e,y⟩:=y
  subst e
  exact hs i x σ _ (y xs q) p
 ·have e:i=xs.length:=by omega
  subst e
  exact .inl ⟨⟨xs,q,Nat.le_refl _⟩,hd σ H p⟩
theorem for_range {lo:Int} {n:Nat} {g:TG} {tb:TS} {D:Ends} {σ:St} {H:Hp} (Pv:Nat->St->Hp->Prop) (h0:Pv 0 σ H)
  (hs:∀ i σ H,i < n->Pv i σ H->g (.int (lo+i)) σ H fun σ2 H2=>tb { D with nx:=Pv (i+1),ct:=Pv (i+1),bk:=D.nx } σ2 H2) (hd:∀ σ H,Pv n σ H->D.nx σ H) :
  ∃ W:Nat->Nat->St->Hp->Prop,(∃ m,W 0 m σ H)/\∀ i m σ H,W i m σ H →
   ((Itr lo n).stop i H/\D.nx σ H)\/((Itr lo n).go i H/\∃ N:St->Hp->Prop,(∀ σ' H',N σ' H'->∃ m',m' < m/\W (i+1) m' σ' H')/\∀ x H',(Itr lo n).yld i H x H'->g x σ H' fun σ2 H2=>tb { D with nx:=N,ct:=N,bk:=D.nx } σ2 H2):=by
 refine ⟨fun i m σ H=>m=n - i/\i<=n/\Pv i σ H,⟨n,by simp,Nat.zero_le _,h0⟩,?_⟩
 rintro i m σ H ⟨rfl,hi,p⟩
 by_cases hlt:i < n
 ·refine .inr ⟨hlt,Pv (i+1),fun σ' H' p'=>⟨n - (i+1),by omega,rfl,hlt,p'⟩,fun x H' y=>?_⟩
  obtain ⟨e,y⟩:=y
  subst e y
  exact hs i σ _ hlt p
 ·have e:i=n:=by omega
  subst e
  exact .inl ⟨Nat.le_refl _,hd σ H p⟩
end L2
namespace L2
open PySem PySem.Spec PyProof.Rows
abbrev R2:=V->V->Hp->VK->Prop
def OpR (X:Cx) (f:Value->Value->Sem Value) (r:R2):Prop:=
 ∀ (pins:List (Addr × Obj)) (s:Shared) (σ:St) (H:Hp) (x y:V) (v u:Value) (Q:VK),Inv X pins σ H s->RelV x v->RelV y u->r x y H Q →
  wpAny (model X.prog X.w) X.A (f v u) (EP X pins σ Q) X.xe s
def UnR (X:Cx) (f:Value->Sem Value) (r:V->Hp->VK->Prop):Prop:=
 ∀ (pins:List (Addr × Obj)) (s:Shared) (σ:St) (H:Hp) (x:V) (v:Value) (Q:VK),Inv X pins σ H s->RelV x v->r x H Q →
  wpAny (model X.prog X.w) X.A (f v) (EP X pins σ Q) X.xe s
def CallR (X:Cx) (f:Value) (r:List V->Hp->VK->Prop):Prop:=
 ∀ (pins:List (Addr × Obj)) (s:Shared) (σ:St) (H:Hp) (xs:List V) (us:List Value) (Q:VK),Inv X pins σ H s->Vals xs us->r xs H Q →
  wpAny (model X.prog X.w) X.A (call f us) (EP X pins σ Q) X.xe s
def tOp (r:R2) (ta tb:TE):TE:=fun σ H Q=>ta σ H fun x H1=>tb σ H1 fun y H2=>r x y H2 Q
def tUn (r:V->Hp->VK->Prop) (ta:TE):TE:=fun σ H Q=>ta σ H fun x H1=>r x H1 Q
def rI (C:Int->Int->Prop) (g:Int->Int->V):R2:=fun x y H Q=>∃ i j,x=.int i/\y=.int j/\C i j/\Q (g i j) H
def rI0 (g:Int->Int->V):R2:=fun x y H Q=>∃ i j,x=.int i/\y=.int j/\Q (g i j) H
def rU (g:Int->V):V->Hp->VK->Prop:=fun x H Q=>∃ i,x=.int i/\Q (g i) H
section
variable {X:Cx} {a b c:Expr} {ta tb tc:TE} {pos:Pos}
theorem binT (ha:PE X a ta) (hb:PE X b tb) {pins:List (Addr × Obj)} {s:Shared} {σ:St} {H:Hp} {R:V->V->Hp->Prop} (I:Inv X pins σ H s)
  (h:ta σ H fun x H1=>tb σ H1 fun y H2=>R x y H2) {Q:Value->Shared->Prop} {f:Value->Value->Sem Value}
  (hf:∀ v u s2 x y H2,Inv X pins σ H2 s2->RelV x v->RelV y u->R x y H2->wpAny (model X.prog X.w) X.A (f v u) Q X.xe s2) :
  wpAny (model X.prog X.w) X.A (eval a X.env) (fun v s₁=>wpAny (model X.prog X.w) X.A (eval b X.env) (fun u s₂=>wpAny (model X.prog X.w) X.A (f v u) Q X.xe s₂) X.xe s₁) X.xe s:=by
 refine thn (ha pins s σ H _ I h) fun v s1 ⟨x,H1,I1,r1,q1⟩=>?_
 refine thn (hb pins s1 σ H1 _ I1 q1) fun u s2 ⟨y,H2,I2,r2,q2⟩=>?_
 exact hf v u s2 x y H2 I2 r1 r2 q2
theorem pe_op {op:Operator} {r:R2} (ho:OpR X (binaryOp op) r) (ha:PE X a ta) (hb:PE X b tb):PE X (.BinOp a op b pos) (tOp r ta tb):=by
 intro pins s σ H Q I h
 exact wpAny_BinOp (binT ha hb I h fun v u s2 x y H2 I2 rx ry q=>ho pins s2 σ H2 x y v u Q I2 rx ry q)
theorem pe_un {op:UnaryOp} {r:V->Hp->VK->Prop} (ho:UnR X (unaryOp op) r) (ha:PE X a ta):PE X (.UnaryOp op a pos) (tUn r ta):=by
 intro pins s σ H Q I h
 exact UnaryOp_ (thn (ha pins s σ H _ I h) fun v s1 ⟨x,H1,I1,r1,q1⟩=>ho pins s1 σ H1 x v Q I1 r1 q1)
theorem opI {f:Value->Value->Sem Value} {C:Int->Int->Prop} {g:Int->Int->Int}
  (rule:∀ (i j:Int) (t u:Tok) (s:Shared) (Q:Value->Shared->Prop) (E:Value->Shared->Prop),C i j->Q (.int (g i j) s.toks) { s with toks:=s.toks+1 }->wpAny (model X.prog X.w) X.A (f (.int i t) (.int j u)) Q E s) :
  OpR X f (rI C fun i j=>.int (g i j)):=by
 intro pins s σ H x y v u Q I rx ry h
 obtain ⟨i,j,rfl,rfl,hc,q⟩:=h
 obtain ⟨t,rfl⟩:=rx
 obtain ⟨t',rfl⟩:=ry
 exact rule i j t t' s _ _ hc ⟨.int (g i j),H,I.tok _,⟨_,rfl⟩,q⟩
theorem opI0 {f:Value->Value->Sem Value} {g:Int->Int->Int}
  (rule:∀ (i j:Int) (t u:Tok) (s:Shared) (Q:Value->Shared->Prop) (E:Value->Shared->Prop),Q (.int (g i j) s.toks) { s with toks:=s.toks+1 }->wpAny (model X.prog X.w) X.A (f (.int i t) (.int j u)) Q E s) :
  OpR X f (rI0 fun i j=>.int (g i j)):=by
 intro pins s σ H x y v u Q I rx ry h
 obtain ⟨i,j,rfl,rfl,q⟩:=h
 obtain ⟨t,rfl⟩:=rx
 obtain ⟨t',rfl⟩:=ry
 exact rule i j t t' s _ _ ⟨.int (g i j),H,I.tok _,⟨_,rfl⟩,q⟩
theorem opB0 {f:Value->Value->Sem Value} {g:Int->Int->Bool}
  (rule:∀ (i j:Int) (t u:Tok) (s:Shared) (Q:Value->Shared->Prop) (E:Value->Shared->Prop),Q (.bool (g i j)) s->wpAny (model X.prog X.w) X.A (f (.int i t) (.int j u)) Q E s) :
  OpR X f (rI0 fun i j=>.bl (g i j)):=by
 intro pins s σ H x y v u Q I rx ry h
 obtain ⟨i,j,rfl,rfl,q⟩:=h
 obtain ⟨t,rfl⟩:=rx
 obtain ⟨t',rfl⟩:=ry
 exact rule i j t t' s _ _ ⟨.bl (g i j),H,I,rfl,q⟩
def CDiv (i j:Int):Prop:=0 < j/\j < 1073741824
def CPow (i j:Int):Prop:=0<=j/\j<=1000000/\i.natAbs < 2 ^ 64
def CMul (i j:Int):Prop:=(-(2 ^ 64) < i/\i < 2 ^ 64)\/(-(2 ^ 64) < j/\j < 2 ^ 64)
theorem CMul.ok {i j:Int} (h:CMul i j):IntMulOk i j:=by
 rcases h with ⟨h1,h2⟩ | ⟨h1,h2⟩
 ·exact .of_left (intBits_le_64 h1 h2)
 ·exact .of_right (intBits_le_64 h1 h2)
theorem op_add:OpR X (binaryOp .Add) (rI0 fun i j=>.int (i+j)):=opI0 fun _ _ _ _ _ _ _ q=>add_int q
theorem op_sub:OpR X (binaryOp .Sub) (rI0 fun i j=>.int (i - j)):=opI0 fun _ _ _ _ _ _ _ q=>sub_int q
theorem op_mul:OpR X (binaryOp .Mult) (rI CMul fun i j=>.int (i * j)):=opI fun _ _ _ _ _ _ _ hc q=>mul_int q hc.ok
theorem op_fdiv:OpR X (binaryOp .FloorDiv) (rI CDiv fun i j=>.int (i / j)):=opI fun i j _ _ _ _ _ hc q=>by
 have h1:(0:Int) < j:=hc.1
 have h2:j < 1073741824:=hc.2
 exact floordiv_int (by omega) (by rw [Int.fdiv_eq_ediv_of_nonneg i (by omega)];exact q) (.inl (PyProof.noPylong_small (by omega)))
theorem op_mod:OpR X (binaryOp .Mod) (rI (fun _ j=>0 < j) fun i j=>.int (i % j)):=opI fun i j _ _ _ _ _ hc q=>by
 have h1:(0:Int) < j:=hc
 exact mod_int' (by omega) (by rw [Int.fmod_eq_emod_of_nonneg i (by omega)];exact q)
theorem op_pow:OpR X (binaryOp .Pow) (rI CPow fun i j=>.int (i ^ j.toNat)):=opI fun _ _ _ _ _ _ _ hc q=>pow_int_small hc.1 hc.2.1 hc.2.2 q
theorem unI {f:Value->Sem Value} {g:Int->Int}
  (rule:∀ (i:Int) (t:Tok) (s:Shared) (Q:Value->Shared->Prop) (E:Value->Shared->Prop),Q (.int (g i) s.toks) { s with toks:=s.toks+1 }->wpAny (model X.prog X.w) X.A (f (.int i t)) Q E s) :
  UnR X f (rU fun i=>.int (g i)):=by
 intro pins s σ H x v Q I rx h
 obtain ⟨i,rfl,q⟩:=h
 obtain ⟨t,rfl⟩:=rx
 exact rule i t s _ _ ⟨.int (g i),H,I.tok _,⟨_,rfl⟩,q⟩
theorem un_neg:UnR X (unaryOp .USub) (rU fun i=>.int (-i)):=unI fun _ _ _ _ _ q=>neg_int q
end
def scal:V->V->Bool
 | .non,.non=>true | .non,.int _=>true | .int _,.non=>true | .non,.bl _=>true | .bl _,.non=>true | .non,.str _=>true | .str _,.non=>true
 | .int _,.int _=>true | .bl _,.bl _=>true | .str _,.str _=>true | .byt _,.byt _=>true
 | .int _,.str _=>true | .str _,.int _=>true | .bl _,.str _=>true | .str _,.bl _=>true
 | _,_=>false
def rEq:R2:=fun x y H Q=>scal x y=true/\Q (.bl (decide (x=y))) H
def rNe:R2:=fun x y H Q=>scal x y=true/\Q (.bl (!decide (x=y))) H
theorem dec_int {i j:Int}:decide (V.int i=V.int j)=(i == j):=by
 rw [Bool.eq_iff_iff]
 simp
theorem dec_bl {i j:Bool}:decide (V.bl i=V.bl j)=(i == j):=by
 rw [Bool.eq_iff_iff]
 simp
theorem dec_str {i j:Str}:decide (V.str i=V.str j)=(i == j):=by
 rw [Bool.eq_iff_iff]
 simp
theorem dec_byt {i j:Array UInt8}:decide (V.byt i=V.byt j)=(i.toList == j.toList):=by
 rw [Bool.eq_iff_iff]
 cases i
 cases j
 simp
section
variable {X:Cx} {a b c:Expr} {ta tb tc:TE} {pos:Pos}
theorem fin_bl {pins:List (Addr × Obj)} {σ:St} {H:Hp} {s:Shared} {Q:VK} {k k':Bool} (I:Inv X pins σ H s) (q:Q (.bl k) H) (e:k=k'):EP X pins σ Q (.bool k') s:=by
 subst e
 exact ⟨.bl k,H,I,rfl,q⟩
theorem op_eq:OpR X (compareOp .Eq) rEq:=by
 intro pins s σ H x y v u Q I rx ry h
 obtain ⟨hs,q⟩:=h
 cases x with
 | non=>
  cases rx
  cases y with
  | non=>cases ry;exact PySem.EqNone.eq_none_none (fin_bl I q (by simp))
  | bl j=>cases ry;exact PySem.EqNone.eq_none_bool (fin_bl I q (by simp))
  | int j=>obtain ⟨t',rfl⟩:=ry;exact PySem.EqNone.eq_none_int (fin_bl I q (by simp))
  | str j=>obtain ⟨t',rfl⟩:=ry;exact PySem.EqNone.eq_none_str (fin_bl I q (by simp))
  | _=>exact absurd (show false=true from hs) Bool.false_ne_true
 | bl i=>
  cases rx
  cases y with
  | non=>cases ry;exact PySem.EqNone.eq_bool_none (fin_bl I q (by simp))
  | bl j=>cases ry;exact eq_bool (fin_bl I q dec_bl)
  | str j=>obtain ⟨t',rfl⟩:=ry;exact PySem.EqMixed.eq_bool_str (fin_bl I q (by simp))
  | _=>exact absurd (show false=true from hs) Bool.false_ne_true
 | int i=>
  obtain ⟨t,rfl⟩:=rx
  cases y with
  | non=>cases ry;exact PySem.EqNone.eq_int_none (fin_bl I q (by simp))
  | int j=>obtain ⟨t',rfl⟩:=ry;exact eq_int (fin_bl I q dec_int)
  | str j=>obtain ⟨t',rfl⟩:=ry;exact PySem.EqMixed.eq_int_str (fin_bl I q (by simp))
  | _=>exact absurd (show false=true from hs) Bool.false_ne_true
 | str i=>
  obtain ⟨t,rfl⟩:=rx
  cases y with
  | non=>cases ry;exact PySem.EqNone.eq_str_none (fin_bl I q (by simp))
  | bl j=>cases ry;exact PySem.EqMixed.eq_str_bool (fin_bl I q (by simp))
  | int j=>obtain ⟨t',rfl⟩:=ry;exact PySem.EqMixed.eq_str_int (fin_bl I q (by simp))
  | str j=>obtain ⟨t',rfl⟩:=ry;exact eq_str (fin_bl I q dec_str)
  | _=>exact absurd (show false=true from hs) Bool.false_ne_true
 | byt i=>
  obtain ⟨t,rfl⟩:=rx
  cases y with
  | byt j=>obtain ⟨t',rfl⟩:=ry;exact PySem.W.eq_bytes (fin_bl I q dec_byt)
  | _=>exact absurd (show false=true from hs) Bool.false_ne_true
 | _=>cases y <;> exact absurd (show false=true from hs) Bool.false_ne_true
theorem op_ne:OpR X (compareOp .NotEq) rNe:=by
 intro pins s σ H x y v u Q I rx ry h
 obtain ⟨hs,q⟩:=h
 cases x with
 | non=>
  cases rx
  cases y with
  | non=>cases ry;exact PySem.EqNone.ne_none_none (fin_bl I q (by simp))
  | bl j=>cases ry;exact PySem.EqNone.ne_none_bool (fin_bl I q (by simp))
  | int j=>obtain ⟨t',rfl⟩:=ry;exact PySem.EqNone.ne_none_int (fin_bl I q (by simp))
  | str j=>obtain ⟨t',rfl⟩:=ry;exact PySem.EqNone.ne_none_str (fin_bl I q (by simp))
  | _=>exact absurd (show false=true from hs) Bool.false_ne_true
 | bl i=>
  cases rx
  cases y with
  | non=>cases ry;exact PySem.EqNone.ne_bool_none (fin_bl I q (by simp))
  | bl j=>cases ry;exact ne_bool (fin_bl I q (congrArg not dec_bl))
  | str j=>obtain ⟨t',rfl⟩:=ry;exact PySem.EqMixed.ne_bool_str (fin_bl I q (by simp))
  | _=>exact absurd (show false=true from hs) Bool.false_ne_true
 | int i=>
  obtain ⟨t,rfl⟩:=rx
  cases y with
  | non=>cases ry;exact PySem.EqNone.ne_int_none (fin_bl I q (by simp))
  | int j=>obtain ⟨t',rfl⟩:=ry;exact ne_int (fin_bl I q (congrArg not dec_int))
  | str j=>obtain ⟨t',rfl⟩:=ry;exact PySem.EqMixed.ne_int_str (fin_bl I q (by simp))
  | _=>exact absurd (show false=true from hs) Bool.false_ne_true
 | str i=>
  obtain ⟨t,rfl⟩:=rx
  cases y with
  | non=>cases ry;exact PySem.EqNone.ne_str_none (fin_bl I q (by simp))
  | bl j=>cases ry;exact PySem.EqMixed.ne_str_bool (fin_bl I q (by simp))
  | int j=>obtain ⟨t',rfl⟩:=ry;exact PySem.EqMixed.ne_str_int (fin_bl I q (by simp))
  | str j=>obtain ⟨t',rfl⟩:=ry;exact ne_str (fin_bl I q (congrArg not dec_str))
  | _=>exact absurd (show false=true from hs) Bool.false_ne_true
 | byt i=>
  obtain ⟨t,rfl⟩:=rx
  cases y with
  | byt j=>obtain ⟨t',rfl⟩:=ry;exact PySem.W.ne_bytes (fin_bl I q (congrArg not dec_byt))
  | _=>exact absurd (show false=true from hs) Bool.false_ne_true
 | _=>cases y <;> exact absurd (show false=true from hs) Bool.false_ne_true
theorem op_lt:OpR X (compareOp .Lt) (rI0 fun i j=>.bl (decide (i < j))):=opB0 fun _ _ _ _ _ _ _ q=>lt_int q
theorem op_le:OpR X (compareOp .LtE) (rI0 fun i j=>.bl (decide (i<=j))):=opB0 fun _ _ _ _ _ _ _ q=>le_int q
theorem op_gt:OpR X (compareOp .Gt) (rI0 fun i j=>.bl (decide (j < i))):=opB0 fun _ _ _ _ _ _ _ q=>gt_int q
theorem op_ge:OpR X (compareOp .GtE) (rI0 fun i j=>.bl (decide (j<=i))):=opB0 fun _ _ _ _ _ _ _ q=>ge_int q
theorem op_in_str:OpR X (compareOp .In) (fun x y H Q=>∃ i j,x=.str i/\y=.str j/\Q (.bl (!(Builtin.Str.occurrences j i 0 j.length 1).isEmpty)) H):=by
 intro pins s σ H x y v u Q I rx ry h
 obtain ⟨i,j,rfl,rfl,q⟩:=h
 obtain ⟨t,rfl⟩:=rx
 obtain ⟨t',rfl⟩:=ry
 exact in_str (fin_bl I q rfl)
theorem op_isN:OpR X (compareOp .Is) (fun x y H Q=>y=.non/\Q (.bl (decide (x=.non))) H):=by
 intro pins s σ H x y v u Q I rx ry h
 obtain ⟨rfl,q⟩:=h
 cases ry
 refine is_none_gen (fin_bl I q ?_)
 cases x <;> first
  | (cases rx;rfl)
  | (obtain ⟨t,rfl⟩:=rx;rfl)
theorem op_notN:OpR X (compareOp .IsNot) (fun x y H Q=>y=.non/\Q (.bl (!decide (x=.non))) H):=by
 intro pins s σ H x y v u Q I rx ry h
 obtain ⟨rfl,q⟩:=h
 cases ry
 refine isnot_none_gen (fin_bl I q ?_)
 cases x <;> first
  | (cases rx;rfl)
  | (obtain ⟨t,rfl⟩:=rx;rfl)
theorem nomark (b:Expr) {op:CmpOp} (h:op ≠ .In:=by decide) (h2:op ≠ .NotIn:=by decide):behindInMarks op b=false:=by
 have e1:(op == CmpOp.In)=false:=by cases op <;> first | rfl | exact absurd rfl h
 have e2:(op == CmpOp.NotIn)=false:=by cases op <;> first | rfl | exact absurd rfl h2
 cases b <;> simp [behindInMarks,e1,e2]
theorem pe_cmpR {op:CmpOp} {r:R2} (ho:OpR X (compareOp op) r) (ha:PE X a ta) (hb:PE X b tb) (hm:behindInMarks op b=false):PE X (.Compare a [op] [b] pos) (tOp r ta tb):=by
 intro pins s σ H Q I h
 exact wpAny_Compare1 (binT ha hb I h fun v u s2 x y H2 I2 rx ry q=>ho pins s2 σ H2 x y v u Q I2 rx ry q) hm
def tTest (t:TE):TT:=fun σ H Q=>t σ H fun x H'=>∃ k,x=.bl k/\Q k H'
theorem pt_cmpR {op:CmpOp} {r:R2} (ho:OpR X (compareOp op) r) (ha:PE X a ta) (hb:PE X b tb) (hm:behindInMarks op b=false):PT X (.Compare a [op] [b] pos) (tTest (tOp r ta tb)):=by
 intro pins s σ H Q I h
 refine wpAny_isTrue_Compare1 (thn (ha pins s σ H _ I h) fun v s1 ⟨x,H1,I1,r1,q1⟩=>thn (hb pins s1 σ H1 _ I1 q1) fun u s2 ⟨y,H2,I2,r2,q2⟩=>
  thn (ho pins s2 σ H2 x y v u _ I2 r1 r2 q2) fun c s3 ⟨z,H3,I3,r3,k,e,q3⟩=>?_) hm
 subst e
 cases r3
 exact wpAny_truthy_bool ⟨H3,I3,q3⟩
def tChain (r r':R2) (ta tb tc:TE):TE:=fun σ H Q=>ta σ H fun x H1=>tb σ H1 fun y H2=>r x y H2 fun z H3=>∃ k,z=.bl k ∧
 (if k=true then tc σ H3 fun w' H4=>r' y w' H4 Q else Q (.bl false) H3)
theorem pe_chain {op op':CmpOp} {r r':R2} (ho:OpR X (compareOp op) r) (ho':OpR X (compareOp op') r') (ha:PE X a ta) (hb:PE X b tb) (hc:PE X c tc)
  (hm:lastMarks [op,op'] [b,c]=false:=by with_unfolding_all rfl):PE X (.Compare a [op,op'] [b,c] pos) (tChain r r' ta tb tc):=by
 intro pins s σ H Q I h
 refine Compare_chain (thn (ha pins s σ H _ I h) fun v s1 ⟨x,H1,I1,r1,q1⟩=>chain_link (thn (hb pins s1 σ H1 _ I1 q1) fun u s2 ⟨y,H2,I2,r2,q2⟩=>
  thn (ho pins s2 σ H2 x y v u _ I2 r1 r2 q2) fun d s3 ⟨z,H3,I3,r3,k,e,q3⟩=>?_)) hm
 subst e
 cases r3
 refine wpAny_truthy_bool ?_
 cases k with
 | false=>exact ite_ff ⟨.bl false,H3,I3,rfl,q3⟩
 | true=>exact ite_tt (chain_last (thn (hc pins s3 σ H3 _ I3 q3) fun w' s4 ⟨z',H4,I4,r4,q4⟩=>ho' pins s4 σ H4 y z' u w' Q I4 r2 r4 q4))
theorem pt_chain {op op':CmpOp} {r r':R2} (ho:OpR X (compareOp op) r) (ho':OpR X (compareOp op') r') (ha:PE X a ta) (hb:PE X b tb) (hc:PE X c tc)
  (hm:lastMarks [op,op'] [b,c]=false:=by with_unfolding_all rfl):PT X (.Compare a [op,op'] [b,c] pos) (tTest (tChain r r' ta tb tc)):=by
 intro pins s σ H Q I h
 refine isTrue_chain (thn (ha pins s σ H _ I h) fun v s1 ⟨x,H1,I1,r1,q1⟩=>test_link (thn (hb pins s1 σ H1 _ I1 q1) fun u s2 ⟨y,H2,I2,r2,q2⟩=>
  thn (ho pins s2 σ H2 x y v u _ I2 r1 r2 q2) fun d s3 ⟨z,H3,I3,r3,k,e,q3⟩=>?_)) hm
 subst e
 cases r3
 refine wpAny_truthy_bool ?_
 cases k with
 | false=>
  obtain ⟨k',e',q'⟩:=q3
  cases e'
  exact ite_ff ⟨H3,I3,q'⟩
 | true=>
  refine ite_tt (test_last (thn (hc pins s3 σ H3 _ I3 q3) fun w' s4 ⟨z',H4,I4,r4,q4⟩=>thn (ho' pins s4 σ H4 y z' u w' _ I4 r2 r4 q4) fun d' s5 ⟨z2,H5,I5,r5,k2,e2,q5⟩=>?_))
  subst e2
  cases r5
  exact wpAny_truthy_bool ⟨H5,I5,q5⟩
theorem line63:(sizeLine:Nat) < 2 ^ 63:=by rw [sizeLine_eq];decide
theorem op_add_str:OpR X (binaryOp .Add) (fun x y H Q=>∃ i j,x=.str i/\y=.str j/\i.length+j.length<=sizeLine/\Q (.str (i++j)) H):=by
 intro pins s σ H x y v u Q I rx ry h
 obtain ⟨i,j,rfl,rfl,hz,q⟩:=h
 obtain ⟨t,rfl⟩:=rx
 obtain ⟨t',rfl⟩:=ry
 exact add_str (fun t' tk=>⟨.str (i++j),H,I.tok _,⟨_,rfl⟩,q⟩) hz
theorem vals1 {x:V} {us:List Value} (r:Vals [x] us):∃ u,us=[u]/\RelV x u:=by
 cases r with
 | cons r1 r2=>cases r2;exact ⟨_,rfl,r1⟩
theorem vals2 {x y:V} {us:List Value} (r:Vals [x,y] us):∃ u w',us=[u,w']/\RelV x u/\RelV y w':=by
 cases r with
 | cons r1 r2=>
  cases r2 with
  | cons r3 r4=>cases r4;exact ⟨_,_,rfl,r1,r3⟩
theorem call_int1:CallR X (.type "int") (fun xs H Q=>(∃ i,xs=[.int i]/\Q (.int i) H)\/∃ k,xs=[.bl k]/\Q (.int (if k then 1 else 0)) H):=by
 intro pins s σ H xs us Q I r h
 rcases h with ⟨i,rfl,q⟩ | ⟨k,rfl,q⟩
 ·obtain ⟨u,rfl,t,rfl⟩:=vals1 r
  exact call_int_int ⟨.int i,H,I,⟨_,rfl⟩,q⟩
 ·obtain ⟨u,rfl,r1⟩:=vals1 r
  cases r1
  exact call_int_bool ⟨.int (if k then 1 else 0),H,I.tok _,⟨_,rfl⟩,q⟩
theorem call_str_int:CallR X (.type "str") (fun xs H Q=>∃ i,xs=[.int i]/\i.natAbs.log2 < 1920/\Q (.str (toString i)) H):=by
 intro pins s σ H xs us Q I r h
 obtain ⟨i,rfl,hz,q⟩:=h
 obtain ⟨u,rfl,t,rfl⟩:=vals1 r
 exact PySem.P.str_of_int hz ⟨.str _,H,I.tok _,⟨_,rfl⟩,q⟩
end
end L2
namespace L2
open PySem PySem.Spec PyProof.Rows
structure ObjM (h:Heap) (x dx C:Addr) (mA:Str->Option Value):Prop where
 obj:h.get? x=some (PySem.W.instObj C dx)
 ns:h.Ns1 dx mA
 ne:dx ≠ x
theorem lookIn_ns {h:Heap} {dx:Addr} {mA:Str->Option Value} (n:h.Ns1 dx mA):∃ od,h.get? dx=some od/\∀ name,PySem.W.lookIn name od=some (mA name):=by
 obtain ⟨o,es,ep,ho,hd,hk,_,hm⟩:=n
 refine ⟨o,ho,fun name=>?_⟩
 have e:=hm name
 unfold nsFind findBy at e
 rw [<-Array.find?_toList] at e
 unfold PySem.W.lookIn
 rw [hd]
 dsimp only
 split
 ·rename_i y q
  rw [q] at e
  exact congrArg some e
 ·rename_i q
  rw [q] at e
  have a:es.toList.any (·.refKey)=false:=by
   rw [List.any_eq_false]
   intro y hy
   obtain ⟨z,t,hkey⟩:=hk y (Array.mem_toList_iff.mp hy)
   simp [DictEntry.refKey,hkey]
  have a':¬ es.toList.any (·.refKey)=true:=by rw [a];exact Bool.false_ne_true
  rw [if_neg a']
  exact congrArg some e
theorem ObjM.look {h:Heap} {x dx C:Addr} {mA:Str->Option Value} (I:ObjM h x dx C mA):∃ od,PySem.W.InstAt h x (PySem.W.instObj C dx) C (some od)/\∀ name,PySem.W.lookIn name od=some (mA name):=
 let ⟨od,ho,hl⟩:=lookIn_ns I.ns
 ⟨od,⟨I.obj,rfl,rfl,ho⟩,hl⟩
section
variable {prog:Program} {w:World} {A:Around} {E:Value->Shared->Prop} {s:Shared} {K:PySem.W.Frag} {x dx C f:Addr} {mA:Str->Option Value} {name:Str} {v:Value}
end
section
variable {P:Program} {w:World} {H H':Hp} {h h':Heap} {a C dx:Addr} {fs fs':List (Str × V)}
theorem ins_get (hok:HOk P w H h) (e:H a=some (.ins C dx fs)):∃ mA,ObjM h a dx C mA/\(∀ f,RelO (fs.lookup f) (mA f))/\PySem.Within mA (fs.map (·.1))/\fs.length<=1000/\H dx=some (.own a):=by
 obtain ⟨d,z,ne,ob,mA,n,r,q⟩:=(show ObjOk P w H h a (.ins C dx fs) from hok a _ e)
 exact ⟨mA,⟨ob,n,ne⟩,r,q,z,d⟩
end
structure Cls (K:PySem.W.Frag) (C:Addr):Prop where
 pg:PySem.W.plainGet K C Str.empty=true
 hd:PySem.W.hasDictIn K C=true
 po:PySem.W.plainOver K C=true
 sa:PySem.W.findIn K (.ref C) "__setattr__" = some (some (.builtin "object.__setattr__"))
theorem Cls.get {K:PySem.W.Frag} {C:Addr} (c:Cls K C) (f:Str):PySem.W.plainGet K C f=true:=c.pg
section
variable {X:Cx} {pins:List (Addr × Obj)} {σ:St} {H:Hp} {s:Shared} {a C dx:Addr} {fs:List (Str × V)} {f:Str} {v:V} {A:Around} {E:Value->Shared->Prop}
end
section
variable {X:Cx} {o e value:Expr} {f:Str} {pos pos' tpos:Pos} {ta tv:TE}
end
section
variable {X:Cx} {pins:List (Addr × Obj)} {σ:St} {H:Hp} {s:Shared} {A:Around} {E:Value->Shared->Prop} {Q:Value->Shared->Prop} {c:Value} {b:Bool}
inductive TyOf (K:PySem.W.Frag) (H:Hp):V->Value->Prop where
 | non:TyOf K H .non (.type "NoneType")
 | bl (x:Bool):TyOf K H (.bl x) (.type "bool")
 | int (i:Int):TyOf K H (.int i) (.type "int")
 | str (x:Str):TyOf K H (.str x) (.type "str")
 | flt (x:UInt64):TyOf K H (.flt x) (.type "float")
 | lst {a:Addr} {xs:List V} (e:H a=some (.lst xs)):TyOf K H (.ref a) (.type "list")
 | frz {a:Addr} {o:Obj} {xs:List V} (e:H a=some (.frz o (.lst xs))):TyOf K H (.ref a) (.type "list")
 | tup {a:Addr} {xs:List V} (e:H a=some (.tup xs)):TyOf K H (.ref a) (.type "tuple")
 | dK {a:Addr} {kvs:List (Key × V)} (e:H a=some (.dK kvs)):TyOf K H (.ref a) (.type "dict")
 | dT {a:Addr} {kvs:List (List Key × V)} (e:H a=some (.dT kvs)):TyOf K H (.ref a) (.type "dict")
 | ins {a C dx:Addr} {fs:List (Str × V)} (e:H a=some (.ins C dx fs)) (cl:Cls K C) (ha:PySem.W.findIn K (.ref C) "__class__" = some (some (.builtin "object.__class__")))
   (hn:PySem.W.specialIn K (.builtin "object.__class__") "__get__" = some (some (.builtin "getset_descriptor.__get__"))) (htk:PySem.W.takesIn K (.builtin "object.__class__")=some true)
   (hm:PySem.W.mroIn K C (.type "object")=some true):TyOf K H (.ref a) (.ref C)
theorem isinst_ok {x:V} {u t:Value} (I:Inv X pins σ H s) (rx:RelV x u) (ty:TyOf X.K H x t) (e:PySem.W.kitOne X.K t c=some b) (h:∀ tk,Q (.bool b) { s with toks:=tk }) :
  wpAny (model X.prog X.w) A (call (.builtin "isinstance") [u,c]) Q E s:=by
 cases ty with
 | non=>cases (show u=Value.none from rx);exact PySem.W.kia_one PySem.W.kitx_none I.kIn True.intro e (fun z=>nomatch z) h
 | bl y=>cases (show u=Value.bool y from rx);exact PySem.W.kia_one PySem.W.kitx_bool I.kIn True.intro e (fun z=>nomatch z) h
 | int i=>obtain ⟨t,q⟩:=(show ∃ t,u=Value.int i t from rx);cases q;exact PySem.W.kia_one PySem.W.kitx_int I.kIn True.intro e (fun z=>nomatch z) h
 | str y=>obtain ⟨t,q⟩:=(show ∃ t,u=Value.str y t from rx);cases q;exact PySem.W.kia_one PySem.W.kitx_str I.kIn True.intro e (fun z=>nomatch z) h
 | flt y=>obtain ⟨t,q⟩:=(show ∃ t,u=Value.float y t from rx);cases q;exact PySem.W.kia_one PySem.W.kitx_float I.kIn True.intro e (fun z=>nomatch z) h
 | @lst a xs ea=>
  cases (show u=Value.ref a from rx)
  obtain ⟨_,_,n,_,h1⟩:=(show ObjOk X.prog X.w H s.heap a (.lst xs) from I.hok a _ ea)
  exact PySem.W.kia_one PySem.W.kitx_list I.kIn ⟨_,h1,rfl⟩ e (fun z=>nomatch z) h
 | @frz a ob xs ea=>
  cases (show u=Value.ref a from rx)
  obtain ⟨_,_,_,n,_,h1⟩:=(show ObjOk X.prog X.w H s.heap a (.frz ob (.lst xs)) from I.hok a _ ea)
  exact PySem.W.kia_one PySem.W.kitx_list I.kIn ⟨_,h1,rfl⟩ e (fun z=>nomatch z) h
 | @tup a xs ea=>
  cases (show u=Value.ref a from rx)
  obtain ⟨_,_,_,p⟩:=(show ObjOk X.prog X.w H s.heap a (.tup xs) from I.hok a _ ea)
  obtain ⟨o,h1,h2,_⟩:=p
  exact PySem.W.kia_one PySem.W.kitx_tuple I.kIn ⟨o,h1,h2⟩ e (fun z=>nomatch z) h
 | @dK a kvs ea=>
  cases (show u=Value.ref a from rx)
  obtain ⟨_,_,vs,_,p⟩:=(show ObjOk X.prog X.w H s.heap a (.dK kvs) from I.hok a _ ea)
  obtain ⟨o,es,ep,h1,h2,_⟩:=p
  exact PySem.W.kia_one PySem.W.kitx_dict I.kIn ⟨o,h1,h2.1⟩ e (fun z=>nomatch z) h
 | @dT a kvs ea=>exact False.elim (show ObjOk X.prog X.w H s.heap a (.dT kvs) from I.hok a _ ea)
 | @ins a C dx fs ea cl ha hn htk hm=>
  cases (show u=Value.ref a from rx)
  obtain ⟨mA,O,_⟩:=ins_get I.hok ea
  obtain ⟨od,J,_⟩:=O.look
  exact PySem.W.kia_one (PySem.W.kitx_own (cl.get _) cl.hd ha hn htk hm) I.kIn J e (fun z=>nomatch z) h
end
end L2
namespace L2
open PySem PySem.Spec PyProof.Rows
structure Room (k:Nat) (A:Around):Prop where
 hd:A.handled=none
 dp:A.depth+3 * k+5 < recursionLimit
 un:A.units+16 * k+200 < cLine
theorem Room.mono {j k:Nat} {A:Around} (r:Room k A) (h:j<=k):Room j A:=⟨r.hd,by have:=r.dp;omega,by have:=r.un;omega⟩
theorem Room.deeper {k:Nat} {A:Around} (r:Room (k+1) A) (env:Env):Room k (A.deeper env):=
 ⟨r.hd,by have:=r.dp;show A.depth+1+3 * k+5 < _;omega,by have:=r.un;show A.units+3+16 * k+200 < _;omega⟩
theorem Room.depth {k:Nat} {A:Around} (r:Room k A):A.depth < recursionLimit:=by have:=r.dp;omega
theorem Room.units {k:Nat} {A:Around} (r:Room k A):A.units+64 < cLine:=by have:=r.un;omega
def tNil:TA:=fun _ H Q=>Q [] H
def tCons (ta:TE) (tr:TA):TA:=fun σ H Q=>ta σ H fun x H1=>tr σ H1 fun xs H2=>Q (x :: xs) H2
section
variable {X:Cx} {e:Expr} {es:List Expr} {te:TE} {t:TA} {pos:Pos}
theorem pa_nil:PA X [] tNil:=fun _ _ _ _ H Q I h=>Calls.spliced_nil ⟨[],H,I,.nil,h⟩
theorem pa_cons (ha:PE X e te) (hr:PA X es t) (hs:starEach (e :: es) X.env=(false,eval e X.env) :: starEach es X.env:=by rfl):PA X (e :: es) (tCons te t):=by
 intro pos pins s σ H Q I h
 rw [hs]
 show wpAny _ _ (spliced ((false,eval e X.env) :: backTo pos (starEach es X.env))) _ _ s
 refine Calls.spliced_cons (thn (ha pins s σ H _ I h) fun u s1 ⟨x,H1,I1,r1,q1⟩=>?_)
 exact thn (hr pos pins s1 σ H1 _ I1 q1) fun us s2 ⟨xs,H2,I2,r2,q2⟩=>⟨x :: xs,H2,I2,.cons r1 r2,q2⟩
def tTup (t:TA):TE:=fun σ H Q=>t σ H fun xs H1=>xs.length<=sizeLine/\∀ p,H1 p=none->Q (.ref p) (upd H1 p (.tup xs))
def tLst (t:TA):TE:=fun σ H Q=>t σ H fun xs H1=>xs.length<=sizeLine/\∀ p,H1 p=none->Q (.ref p) (upd H1 p (.lst xs))
theorem pe_tup {x1} (h:PA X es t):PE X (.Tuple es x1 pos) (tTup t):=by
 intro pins s σ H Q I hq
 refine wpAny_Tuple_spliced (thn (h pos pins s σ H _ I hq) fun us s1 ⟨xs,H1,I1,r,z,q⟩=>⟨by rw [<-r.length];exact z,?_⟩)
 have hf:H1 s1.heap.objs.size=none:=I1.hok.fresh (Nat.le_refl _)
 refine ⟨.ref s1.heap.objs.size,upd H1 s1.heap.objs.size (.tup xs),I1.laid (t':=s1.toks) (fun b u e=>Heap.get?_push_of_some _ e) (Nat.le_refl _) ?_,rfl,q _ hf⟩
 exact ⟨z,us,r,⟨_,Heap.get?_push_size _ rfl,rfl,_,rfl⟩⟩
theorem pe_lst (h:PA X es t):PE X (.List es pos) (tLst t):=by
 intro pins s σ H Q I hq
 refine wpAny_List_spliced (thn (h pos pins s σ H _ I hq) fun us s1 ⟨xs,H1,I1,r,z,q⟩=>⟨by rw [<-r.length];exact z,?_⟩)
 have hf:H1 s1.heap.objs.size=none:=I1.hok.fresh (Nat.le_refl _)
 refine ⟨.ref s1.heap.objs.size,upd H1 s1.heap.objs.size (.lst xs),I1.laid (t':=s1.toks) (fun b u e=>Heap.get?_push_of_some _ e) (Nat.le_refl _) ?_,rfl,q _ hf⟩
 exact ⟨z,us,0,r,Heap.get?_push_size _ rfl⟩
end
abbrev Sp:=List V->Hp->VK->XK->Prop
abbrev CXT:=List Env->Hp->Shared->XK->Value->Shared->Prop
structure Env0 (P:Program) (w:World) (K:PySem.W.Frag) (mg:Str->Option Value) (base:Heap) (A:Around) (outer:List Env) (s:Shared) (H:Hp):Prop where
 frames:A.frames=some outer
 mod:Mod K mg base
 bs:∀ b o,base.get? b=some o->s.heap.get? b=some o/\H b=none
 bsz:base.objs.size<=s.heap.objs.size
 funs:s.heap.FunFrames base outer
 frf:∀ b ∈ frs outer,H b=none
 hok:HOk P w H s.heap
 bare:AllBare s.gens
def CE (outer:List Env) (P:Program) (w:World) (H:Hp) (s:Shared) (Q:VK) (u:Value) (s':Shared):Prop:=
 ∃ v H',s'.os=s.os/\AllBare s'.gens/\Un (frs outer) [] H H' s.heap s'.heap/\HOk P w H' s'.heap/\RelV v u/\Q v H'
def CR (CX:CXT) (outer:List Env) (P:Program) (w:World) (H:Hp) (s:Shared) (Q:VK) (E:XK) (r:Result) (s':Shared):Prop:=
 match r with
 | .ok (.ret u)=>CE outer P w H s Q u s'
 | .ok _=>False
 | .error e=>CX outer H s E e s'
structure FnOk (P:Program) (w:World) (K:PySem.W.Frag) (mg:Str->Option Value) (base:Heap) (CX:CXT) (k:Nat) (f:Addr) (fd:FuncData) (ps:List Str) (sp:Sp):Prop where
 len:∀ vs H Q E,sp vs H Q E->vs.length=ps.length
 run:∀ (A:Around) (outer:List Env) (s:Shared) (H:Hp) (args:Args) (us:List Value) (vs:List V) (Q:VK) (E:XK),Room k A->Env0 P w K mg base A outer s H->BindsTo s fd args (ps.zip us)->Vals vs us->sp vs H Q E →
  codeAny (model P w) A (.call (.ref f) args) (CR CX outer P w H s Q E) s
theorem FnOk.mono {P:Program} {w:World} {K:PySem.W.Frag} {mg:Str->Option Value} {base:Heap} {CX:CXT} {j k:Nat} {f:Addr} {fd:FuncData} {ps:List Str} {sp:Sp} (F:FnOk P w K mg base CX j f fd ps sp) (h:j<=k) :
  FnOk P w K mg base CX k f fd ps sp:=⟨F.len,fun A outer s H args us vs Q E hr=>F.run A outer s H args us vs Q E (hr.mono h)⟩
section
variable {X:Cx} {pins:List (Addr × Obj)} {σ:St} {H:Hp} {s s':Shared}
theorem Inv.env0 (I:Inv X pins σ H s):Env0 X.prog X.w X.K X.mg X.base X.A X.stack s H:=
 ⟨I.ok.frames,I.ok.mod,I.bs,Nat.le_trans I.ok.bsz I.sz,I.stack,I.stkFree,I.hok,I.bare⟩
theorem Inv.after {Q:VK} {u:Value} (I:Inv X pins σ H s) (h:CE X.stack X.prog X.w H s Q u s'):EP X pins σ Q u s':=by
 obtain ⟨v,H',os,bare,un,hok,r,q⟩:=h
 obtain ⟨hh,g,d,t,os'⟩:=s'
 obtain rfl:os'=s.os:=os
 exact ⟨v,H',I.call (h':=hh) (g':=g) (d':=d) (t':=t) (ch:=[]) un hok bare (fun b z=>absurd z (by simp)),r,q⟩
end
def tCall (sp:Sp) (dvs:List V) (E:XK) (t:TA):TE:=fun σ H Q=>t σ H fun vs H1=>sp (vs++dvs) H1 Q E
def Binds (K:PySem.W.Frag) (fd:FuncData) (ps:List Str) (ds:List Value):Prop:=
 ∀ (s:Shared) (us:List Value),K.In s.heap->(us++ds).length=ps.length->BindsTo s fd ⟨us,[]⟩ (ps.zip (us++ds))
theorem Binds.all {K:PySem.W.Frag} {fd:FuncData} {ps:List Str} (h:∀ us:List Value,us.length=ps.length->bindArgs fd ⟨us,[]⟩=pure (ps.zip us)):Binds K fd ps []:=fun s us _ hl=>by
 rw [List.append_nil] at hl ⊢
 exact .of_eq (h us hl)
def Passes (CX:CXT) (X:Cx) (E:XK):Prop:=∀ (pins:List (Addr × Obj)) (σ:St) (H:Hp) (s:Shared) (e:Value) (s':Shared),Inv X pins σ H s->CX X.stack H s E e s'->X.xe e s'
section
variable {X:Cx} {CX:CXT} {k:Nat} {f C:Addr} {fd:FuncData} {ps:List Str} {sp:Sp} {dvs:List V} {ds:List Value} {E:XK} {x m:Str} {p pos apos:Pos} {e o:Expr} {es:List Expr} {ta:TE} {t:TA}
theorem run_fn {pins:List (Addr × Obj)} {σ:St} {H:Hp} {s:Shared} {Q:VK} {us:List Value} {vs:List V} (F:FnOk X.prog X.w X.K X.mg X.base CX k f fd ps sp) (hr:Room k X.A) (hb:Binds X.K fd ps ds) (hd:Vals dvs ds) (hx:Passes CX X E)
  (I:Inv X pins σ H s) (r:Vals vs us) (h:sp (vs++dvs) H Q E):wpAny (model X.prog X.w) X.A (call (.ref f) us) (EP X pins σ Q) X.xe s:=by
 have r2:Vals (vs++dvs) (us++ds):=r.append hd
 have hl:(us++ds).length=ps.length:=by rw [<-r2.length];exact F.len _ _ _ _ h
 refine wpAny_call (codeAny_mono (F.run X.A X.stack s H ⟨us,[]⟩ (us++ds) (vs++dvs) Q E hr I.env0 (hb s us I.kIn hl) r2 h) fun r s' hq=>?_)
 cases r with
 | error e=>exact hx pins σ H s e s' I hq
 | ok fl=>
  cases fl with
  | ret u=>exact I.after hq
  | next=>exact False.elim hq
  | brk=>exact False.elim hq
  | cont=>exact False.elim hq
theorem pe_call (F:FnOk X.prog X.w X.K X.mg X.base CX k f fd ps sp) (hr:Room k X.A) (hg:Gl X x) (hm:X.mg x=some (.ref f)) (hk:PySem.W.keepIn X.K (.ref f)=true) (hb:Binds X.K fd ps ds) (hd:Vals dvs ds) (hx:Passes CX X E)
  (ha:PA X (e :: es) t) (hdb:(x == ("__debug__" : Str))=false:=by decide) (he:starEach (e :: es) X.env=(false,eval e X.env) :: starEach es X.env:=by rfl) (hpl:(backTo pos (starEach es X.env)).any (·.1)=false:=by rfl) :
  PE X (.Call (.Name x p) (e :: es) [] pos) (tCall sp dvs E t):=by
 intro pins s σ H Q I h
 refine wpAny_Call_Name_kw (ld_glob I hg hm ?_ hdb)
 refine PySem.W.callWith_K (h₀:=X.base) I.ok.mod.kin hk (thn (ha pos pins s σ H _ I h) fun us s1 ⟨vs,H1,I1,r,q⟩=>⟨I1.kIn,?_⟩) he hpl
 exact run_fn F hr hb hd hx I1 r q
end
section
variable {X:Cx} {CX:CXT} {k:Nat} {f C:Addr} {fd:FuncData} {ps ks:List Str} {sp:Sp} {E:XK} {x m:Str} {p pos apos kpos:Pos} {e o:Expr} {es:List Expr} {kws:List Keyword} {te ta:TE} {t tk:TA} {nm:Option Str}
variable {g:List Value->List Value->List Value} {gV:List V->List V->List V}
end
structure FnScope (N P:List Str) (sc:Scope):Prop where
 kind:sc.kind=.function
 co:sc.isCoroutine=false
 gen:sc.isGenerator=false
 nd:N.Nodup
 pre:N.take P.length=P
 par:∀ x ∈ P,sc.names.lookup x=some .local\/sc.names.lookup x=some .cell
 nofree:∀ y ∈ sc.names,y.2 ≠ .free
theorem bindL_out {kindOf:Str->Option NameKind} {x:Str}:∀ {binds:List (Str × Value)} {m:Str->Option Value},(∀ v,(x,v) ∉ binds)->bindL kindOf binds m x=m x
 | [],_,_=>rfl
 | (n,v) :: r,m,h=>by
  unfold bindL
  rw [bindL_out fun w hw=>h w (List.mem_cons_of_mem _ hw)]
  split
  ·have:x ≠ n:=by rintro rfl;exact h v List.mem_cons_self
   simp [this]
  ·rfl
theorem bindC_out {kindOf:Str->Option NameKind} {x:Str}:∀ {binds:List (Str × Value)} {m:Str->Option Value},(∀ v,(x,v) ∉ binds)->bindC kindOf binds m x=m x
 | [],_,_=>rfl
 | (n,v) :: r,m,h=>by
  unfold bindC
  rw [bindC_out fun w hw=>h w (List.mem_cons_of_mem _ hw)]
  split
  ·rfl
  ·have:x ≠ n:=by rintro rfl;exact h v List.mem_cons_self
   simp [this]
theorem bindL_get {kindOf:Str->Option NameKind} {x:Str} {v:Value}:∀ {P:List Str} {vs:List Value} {i:Nat} {m:Str->Option Value},P.Nodup->P[i]?=some x->vs[i]?=some v->kindOf x=some .local →
  bindL kindOf (P.zip vs) m x=some v
 | [],_,_,_,_,h,_,_=>by simp at h
 | _ :: _,[],_,_,_,_,h,_=>by simp at h
 | p :: P,w :: vs,0,m,nd,h1,h2,hk=>by
  simp at h1 h2;subst h1;subst h2
  show bindL kindOf ((p,w) :: P.zip vs) m p=_
  unfold bindL
  rw [bindL_out fun v hv=>(List.nodup_cons.mp nd).1 (List.of_mem_zip hv).1,if_pos hk]
  simp
 | p :: P,w :: vs,i+1,m,nd,h1,h2,hk=>by
  show bindL kindOf ((p,w) :: P.zip vs) m x=_
  unfold bindL
  exact bindL_get (i:=i) (List.nodup_cons.mp nd).2 (by simpa using h1) (by simpa using h2) hk
theorem bindC_get {kindOf:Str->Option NameKind} {x:Str} {v:Value}:∀ {P:List Str} {vs:List Value} {i:Nat} {m:Str->Option Value},P.Nodup->P[i]?=some x->vs[i]?=some v->kindOf x ≠ some .local →
  bindC kindOf (P.zip vs) m x=some v
 | [],_,_,_,_,h,_,_=>by simp at h
 | _ :: _,[],_,_,_,_,h,_=>by simp at h
 | p :: P,w :: vs,0,m,nd,h1,h2,hk=>by
  simp at h1 h2;subst h1;subst h2
  show bindC kindOf ((p,w) :: P.zip vs) m p=_
  unfold bindC
  rw [bindC_out fun v hv=>(List.nodup_cons.mp nd).1 (List.of_mem_zip hv).1,if_neg hk]
  simp
 | p :: P,w :: vs,i+1,m,nd,h1,h2,hk=>by
  show bindC kindOf ((p,w) :: P.zip vs) m x=_
  unfold bindC
  exact bindC_get (i:=i) (List.nodup_cons.mp nd).2 (by simpa using h1) (by simpa using h2) hk
def start (N:List Str) (vs:List V):St:=vs.map some++List.replicate (N.length - vs.length) none
def cxOf (CX:CXT) (P:Program) (w:World) (K:PySem.W.Frag) (mg:Str->Option Value) (base:Heap) (N:List Str) (qual:Str) (scope:Scope) (f:Addr) (cd:Value) (A:Around) (outer:List Env) (s:Shared) (H:Hp) (E:XK):Cx where
 prog:=P
 w:=w
 K:=K
 mg:=mg
 base:=base
 A:=A.deeper (envOfC qual scope s.heap.objs.size f cd)
 N:=N
 s₀:=s
 H₀:=H
 env:=envOfC qual scope s.heap.objs.size f cd
 outer:=outer
 stack:=envOfC qual scope s.heap.objs.size f cd :: outer
 ex:=[]
 calm:=true
 fn:=fun _=>true
 pn:=[]
 xe:=fun e s'=>wpAny (model P w) (A.deeper (envOfC qual scope s.heap.objs.size f cd)) (leaving (envOfC qual scope s.heap.objs.size f cd) e) (fun _ s''=>CX outer H s E e s'') (fun e' s''=>CX outer H s E e' s'') s'
theorem cell_has {sc:Scope} {n:Nat} {x:Str} (h:sc.names.lookup x=some .cell):∃ c,(cellsFrom n sc.names []).lookup x=some c:=by
 have q:=PySem.W.cellsFrom_some sc.names n [] (.inl h)
 exact Option.isSome_iff_exists.mp q
theorem inv_start {CX:CXT} {P:Program} {w:World} {K:PySem.W.Frag} {mg:Str->Option Value} {base:Heap} {N ps:List Str} {qual:Str} {scope:Scope} {f:Addr} {cd:Value} {A:Around} {outer:List Env} {s s1:Shared} {H:Hp} {E:XK} {us:List Value} {vs:List V}
  (S:FnScope N ps scope) (hd:A.handled=none) (e0:Env0 P w K mg base A outer s H) (hl:vs.length=ps.length) (r:Vals vs us)
  (x:InCallC s s.heap.objs.size (bindL (envOfC qual scope s.heap.objs.size f cd).kindOf (ps.zip us) fun _=>none) (cellsFrom (s.heap.objs.size+1) scope.names []) (bindC (envOfC qual scope s.heap.objs.size f cd).kindOf (ps.zip us) fun _=>none) s1) :
  Inv (cxOf CX P w K mg base N qual scope f cd A outer s H E) [] (start N vs) H s1:=by
 have hpl:ps.length<=N.length:=by have:=congrArg List.length S.pre;rw [List.length_take] at this;omega
 obtain ⟨h1,tk,rfl,hk⟩:=x.done
 have noA:∀ b:Addr,b ∉ (cxOf CX P w K mg base N qual scope f cd A outer s H E).ex:=fun b z=>absurd (show b ∈ ([]:List Addr) from z) (by simp)
 refine ⟨⟨e0.mod,S.kind,rfl,rfl,Nat.le_refl _,fun y z c h1 h2=>?_,fun y hy=>?_,fun y c _ h=>?_,fun _=>hd,Around.frames_deeper e0.frames,.inr ⟨rfl,rfl⟩,fun b z=>absurd z (noA b),e0.bs,e0.bsz,fun b _ _=>noA b,fun b z=>absurd z (noA b),e0.funs,e0.frf⟩,
  rfl,e0.bare,Un.kept hk,⟨_,x.toInCall.ns,fun i y v h1 h2 h3=>?_⟩,fun y c h=>⟨_,x.cell y c h⟩,e0.hok.fresh (Nat.le_refl _),fun y c h=>?_,fun p hp=>absurd (show p ∈ ([]:List (Addr × Obj)) from hp) (by simp),e0.hok.kept hk,?_⟩
 ·exact name_of_addr x.apart (PySem.mem_of_lookup h1) (PySem.mem_of_lookup h2)
 ·have hy:scope.names.lookup y=some .cell\/scope.names.lookup y=some .free:=hy
  rcases hy with hy | hy
  ·exact cell_has hy
  ·exact absurd rfl (S.nofree _ (PySem.mem_of_lookup hy))
 ·exact Nat.le_of_lt (x.above y c (PySem.mem_of_lookup h))
 ·have hi:i < vs.length:=by
   unfold start at h2
   by_cases hi:i < vs.length
   ·exact hi
   ·rw [List.getElem?_append_right (by simpa using hi)] at h2
    rw [List.getElem?_replicate] at h2
    split at h2 <;> cases h2
  have ha:vs[i]?=some v:=by
   unfold start at h2
   rw [List.getElem?_append_left (by simpa using hi),List.getElem?_map] at h2
   cases e:vs[i]? with
   | none=>rw [e] at h2;cases h2
   | some a=>rw [e] at h2;cases h2;rfl
  obtain ⟨u,hu,rv⟩:=r.get ha
  have hp:ps[i]?=some y:=by
   rw [<-S.pre,List.getElem?_take_of_lt (by omega)];exact h1
  have ndP:ps.Nodup:=by rw [<-S.pre];exact S.nd.sublist (List.take_sublist _ _)
  refine ⟨u,rv,?_⟩
  rcases S.par y (List.mem_of_getElem? hp) with k | k
  ·exact .inl ⟨k,bindL_get ndP hp hu k⟩
  ·obtain ⟨c,e⟩:=cell_has (n:=s.heap.objs.size+1) k
   refine .inr ⟨.inl k,c,e,?_⟩
   have q:=x.cell y c e
   rw [bindC_get ndP hp hu (by show scope.names.lookup y ≠ _;rw [k];decide)] at q
   exact q
 ·exact e0.hok.fresh (Nat.le_of_lt (x.above y c (PySem.mem_of_lookup h)))
 ·unfold start
  show _=N.length
  rw [List.length_append,List.length_map,List.length_replicate]
  omega
theorem fn_of {CX:CXT} {P:Program} {w:World} {K:PySem.W.Frag} {mg:Str->Option Value} {base:Heap} {k:Nat} {f:Addr} {name qual:Str} {params:Arguments} {body:List Stmt} {scope:Scope} {dV kV doc pm cdv ct oc:Value} {an od:Option Addr}
  {osl:Array (Option Value)} {N ps:List Str} {sp:Sp} (lk:K.lookup f=some ⟨oc,od,.func (PySem.W.fnOf name qual params body scope dV kV doc pm an cdv ct),osl⟩) (hcd:PySem.W.codeIn K cdv qual=true) (S:FnScope N ps scope)
  (len:∀ vs H Q E,sp vs H Q E->vs.length=ps.length)
  (hbody:∀ (A:Around) (outer:List Env) (s:Shared) (H:Hp) (vs:List V) (Q:VK) (E:XK),Room k (A.deeper (envOfC qual scope s.heap.objs.size f cdv))->sp vs H Q E →
   ∃ t,PSs (cxOf CX P w K mg base N qual scope f cdv A outer s H E) body t/\t { nx:=fun _ H'=>Q .non H',rt:=Q } (start N vs) H) :
  FnOk P w K mg base CX (k+1) f (PySem.W.fnOf name qual params body scope dV kV doc pm an cdv ct) ps sp:=by
 refine ⟨len,fun A outer s H args us vs Q E hr e0 hb r hsp=>?_⟩
 have hl:=len _ _ _ _ hsp
 have KX:K.In s.heap:=e0.mod.kin.keeps fun b o e=>(e0.bs b o e).1
 have lim:s.heap.NoLimit:=e0.mod.nolimit.keeps fun b o e=>(e0.bs b o e).1
 have hkind:∀ y ∈ ps.zip us,scope.names.lookup y.1=some .local\/(scope.names.lookup y.1=some .cell/\((cellsFrom (s.heap.objs.size+1) scope.names []).lookup y.1).isSome=true):=fun ⟨n,v⟩ hy=>by
  rcases S.par n (List.of_mem_zip hy).1 with q | q
  ·exact .inl q
  ·exact .inr ⟨q,PySem.W.cellsFrom_some _ _ _ (.inl q)⟩
 refine codeAny_call_function hr.depth (KX _ _ lk) rfl S.co S.gen rfl (PySem.W.codeRec_of KX hcd) (hb _ _ _ _ ?_)
 refine wpAny_newFunctionEnv_cells S.kind hkind fun env he s1 x=>?_
 subst he
 refine ⟨lim.keeps x.toInCall.keep,codeAny_func ?_⟩
 obtain ⟨t,ht,hq⟩:=hbody A outer s H vs Q E (hr.deeper _) hsp
 have I:Inv (cxOf CX P w K mg base N qual scope f cdv A outer s H E) [] (start N vs) H s1:=inv_start S hr.hd e0 hl r x
 refine wpAny_mono (ht [] s1 (start N vs) H _ I hq) (fun fl s' hs=>?_) fun e s' hs=>hs
 have fin:∀ {σ':St} {H':Hp} {v:V} {u:Value},Inv (cxOf CX P w K mg base N qual scope f cdv A outer s H E) [] σ' H' s'->RelV v u->Q v H'->CE outer P w H s Q u s':=
  fun {σ' H' v u} J rv q=>⟨v,H',J.os,J.bare,J.base,J.hok,rv,q⟩
 cases fl with
 | ret u=>
  obtain ⟨v,σ',H',J,rv,q⟩:=hs
  exact fin J rv q
 | next=>
  obtain ⟨σ',H',J,q⟩:=hs
  exact fin (v:=V.non) (u:=Value.none) J rfl q
 | brk=>
  obtain ⟨_,_,_,q⟩:=hs
  exact False.elim q
 | cont=>
  obtain ⟨_,_,_,q⟩:=hs
  exact False.elim q
end L2
namespace L2
open PySem PySem.Spec PyProof.Rows
section
variable {X:Cx} {x:Str} {p pos:Pos} {e:Expr} {es:List Expr} {t:TA} {id T:String} {r:List V->Hp->VK->Prop}
def tCB (r:List V->Hp->VK->Prop) (t:TA):TE:=fun σ H Q=>t σ H fun vs H1=>r vs H1 Q
theorem pe_callB (hc:CallR X (.builtin id) r) (hg:Gl X x) (hm:X.mg x=none) (hv:bootBuiltins x=some (.builtin id)) (ha:PA X (e :: es) t) (hn:x ≠ "__name__" := by decide) (hdb:(x == ("__debug__" : Str))=false:=by decide)
  (he:starEach (e :: es) X.env=(false,eval e X.env) :: starEach es X.env:=by rfl) (hpl:(backTo pos (starEach es X.env)).any (·.1)=false:=by rfl):PE X (.Call (.Name x p) (e :: es) [] pos) (tCB r t):=by
 intro pins s σ H Q I h
 refine wpAny_Call_Name_kw (ld_blt I hg hm hv ?_ hn hdb)
 exact PyProof.Rows.callWith_builtin1 (thn (ha pos pins s σ H _ I h) fun us s1 ⟨vs,H1,I1,r1,q1⟩=>hc pins s1 σ H1 vs us Q I1 r1 q1) he hpl
theorem pe_callTy (hc:CallR X (.type T) r) (hg:Gl X x) (hm:X.mg x=none) (hv:bootBuiltins x=some (.type T)) (ha:PA X (e :: es) t) (hn:x ≠ "__name__" := by decide) (hdb:(x == ("__debug__" : Str))=false:=by decide)
  (he:starEach (e :: es) X.env=(false,eval e X.env) :: starEach es X.env:=by rfl) (hpl:(backTo pos (starEach es X.env)).any (·.1)=false:=by rfl):PE X (.Call (.Name x p) (e :: es) [] pos) (tCB r t):=by
 intro pins s σ H Q I h
 refine wpAny_Call_Name_kw (ld_blt I hg hm hv ?_ hn hdb)
 exact PyProof.Rows.callWith_type1 (thn (ha pos pins s σ H _ I h) fun us s1 ⟨vs,H1,I1,r1,q1⟩=>hc pins s1 σ H1 vs us Q I1 r1 q1) he hpl
end
end L2
namespace HT
open PySem PyProof.Rows
section
open PySem.SeqAt
open PySem.AutoSeq1 (wpAny_loadPart')
open PySem.MeetsSeq PySem.MeetsSeq2 PySem.MeetsSeq3
end
section
variable {prog:Program} {w:World} {A:Around} {E:Value->Shared->Prop} {s:Shared}
theorem cat_tup {t b:Addr} {vs ws:List Value} {Q:Value->Shared->Prop} (ht:IsTup s.heap t vs.toArray) (hb:IsTup s.heap b ws.toArray) (hv:vs ≠ [])
  (h1:ws=[]->Q (.ref t) s) (h2:ws ≠ []->Q (.ref s.heap.objs.size) { s with heap:=s.heap.push { cls:=.type "tuple",data:=.seq (vs++ws).toArray } })
  (hsz:vs.length+ws.length<=sizeLine):wpAny (model prog w) A (binaryOp .Add (.ref t) (.ref b)) Q E s:=by
 obtain ⟨⟨cls,dd,data,sl⟩,ho,hc,n,hd⟩:=id ht
 obtain ⟨⟨cls2,dd2,data2,sl2⟩,ho2,hc2,n2,hd2⟩:=id hb
 simp only at hc hd hc2 hd2
 subst hc hd hc2 hd2
 have e:vs.toArray++ws.toArray=(vs++ws).toArray:=by simp
 by_cases hw:ws=[]
 ·exact concat_meets ⟨_,ho,rfl⟩ ⟨_,ho2,rfl⟩ noFill_tuple_add seq_tuple_add PySem.F.slot_tuple_add PySem.F.entry_tuple_add (PySem.F.args_tuple_add_2 _ _)
   (tuple_addW1 t b vs.toArray ws.toArray n n2 dd dd2 sl sl2 (by simpa using hv) (by simp [hw])) ⟨ho,ho2,h1 hw⟩
 ·refine concat_meets ⟨_,ho,rfl⟩ ⟨_,ho2,rfl⟩ noFill_tuple_add seq_tuple_add PySem.F.slot_tuple_add PySem.F.entry_tuple_add (PySem.F.args_tuple_add_2 _ _)
   (tuple_addW2 t b vs.toArray ws.toArray n n2 dd dd2 sl sl2 (by simpa using hv) (by simpa using hw) (by rw [List.size_toArray,List.size_toArray];exact hsz)) ⟨ho,ho2,?_⟩
  rw [e]
  exact h2 hw
def sIx (n d:Nat):Option Int->Nat
 | none=>d
 | some v=>if v < 0 then (v+(n:Int)).toNat else min v.toNat n
theorem sIx_none (n d:Nat):sIx n d none=d:=rfl
theorem sIx_nat (n d k:Nat):sIx n d (some (k:Int))=min k n:=by
 show (if (k:Int) < 0 then ((k:Int)+(n:Int)).toNat else min (k:Int).toNat n)=min k n
 rw [if_neg (by omega),Int.toNat_natCast]
theorem sIx_le (n d:Nat) (hd:d<=n) (o:Option Int):sIx n d o<=n:=by
 cases o with
 | none=>exact hd
 | some v=>
  show (if v < 0 then (v+(n:Int)).toNat else min v.toNat n)<=n
  by_cases hv:v < 0
  ·rw [if_pos hv];omega
  ·rw [if_neg hv];exact Nat.min_le_right _ _
theorem clip_eq (v:Int) (n d:Nat):(if v < 0 then max (v+(n:Int)) 0 else min v (n:Int))=((sIx n d (some v):Nat):Int):=by
 show (if v < 0 then max (v+(n:Int)) 0 else min v (n:Int))=(((if v < 0 then (v+(n:Int)).toNat else min v.toNat n):Nat):Int)
 by_cases hv:v < 0
 ·simp only [if_pos hv];omega
 ·simp only [if_neg hv];omega
theorem adjust_gen (lo hi:Option Int) (n:Nat):Builtin.Slice.sliceAdjust lo hi 1 (n:Int)=(((sIx n 0 lo:Nat):Int),((sIx n n hi:Nat):Int)):=by
 have h1:¬ ((1:Int) < 0):=by omega
 unfold Builtin.Slice.sliceAdjust
 simp only [h1,if_false]
 refine Prod.ext ?_ ?_
 ·cases lo with
  | none=>rfl
  | some v=>exact clip_eq v n 0
 ·cases hi with
  | none=>rfl
  | some v=>exact clip_eq v n n
theorem places_gen (i j:Nat):Builtin.Slice.slicePlaces (i:Int) (j:Int) 1=j - i:=by
 unfold Builtin.Slice.slicePlaces
 have h1:(1:Int) > 0:=by omega
 simp only [h1,if_true,Int.ediv_one]
 split <;> omega
theorem slicePart_ {v:Value} {o:Option Int} {Q:Option Int->Shared->Prop} (p:IsPart v o) (h:Q o s):wpAny (model prog w) A (Builtin.Slice.slicePartIndex v) Q E s:=by
 cases p with
 | none=>exact slicePart_none h
 | int i t=>exact slicePart_int h
theorem sliceApplied_gen {sl:Addr} {vl vu:Value} {lo hi:Option Int} {n:Nat} {Q:Int × Int × Nat->Shared->Prop} (hs:s.heap.IsSliceOf sl vl vu .none) (pl:IsPart vl lo) (pu:IsPart vu hi)
  (h:Q (((sIx n 0 lo:Nat):Int),1,sIx n n hi - sIx n 0 lo) s):wpAny (model prog w) A (Builtin.Slice.sliceApplied (.ref sl) (pure (n:Int))) Q E s:=by
 obtain ⟨os,hos,hcs,hds⟩:=id hs
 unfold Builtin.Slice.sliceApplied Builtin.Slice.sliceFields
 refine wpAny_bind (wpAny_bind (wpAny_field hos hds (x:=vl) rfl (wpAny_bind (wpAny_field hos hds (x:=vu) rfl (wpAny_bind (wpAny_field hos hds (x:=.none) rfl (wpAny_pure ?_)))))))
 refine wpAny_bind (slicePart_none ?_)
 show wpAny _ _ (if ((1:Int) == 0)=true then _ else _) _ _ s
 rw [if_neg (by decide)]
 refine wpAny_bind (slicePart_ pl (wpAny_bind (slicePart_ pu (wpAny_bind (wpAny_pure ?_)))))
 show wpAny _ _ (match Builtin.Slice.sliceAdjust lo hi 1 (n:Int) with | (lo,hi)=>pure (lo,(1:Int),Builtin.Slice.slicePlaces lo hi 1)) _ _ s
 rw [adjust_gen lo hi n]
 show wpAny _ _ (pure (((sIx n 0 lo:Nat):Int),(1:Int),Builtin.Slice.slicePlaces ((sIx n 0 lo:Nat):Int) ((sIx n n hi:Nat):Int) 1)) _ _ s
 rw [places_gen]
 exact wpAny_pure h
theorem pick_gen (xs:Array Value) (i k:Nat):((List.range k).filterMap fun (m:Nat)=>xs[((i:Int)+(m:Int) * 1).toNat]?).toArray=((xs.toList.drop i).take k).toArray:=by
 have e:(fun (m:Nat)=>xs[((i:Int)+(m:Int) * 1).toNat]?)=fun m=>xs[i+m]?:=by
  funext m
  have:((i:Int)+(m:Int) * 1).toNat=i+m:=by omega
  rw [this]
 rw [e]
 have:=pick_run xs i k
 rw [List.filterMap_map] at this
 have e2:((fun x=>xs[x]?) ∘ fun x=>i+x)=fun m=>xs[i+m]?:=rfl
 rw [e2] at this
 rw [this]
theorem getItem_tuple_cut {t sl:Addr} {items:Array Value} {vl vu:Value} {lo hi:Option Int} {Q:Value->Shared->Prop} (ht:IsTup s.heap t items) (hs:s.heap.IsSliceOf sl vl vu .none) (pl:IsPart vl lo) (pu:IsPart vu hi)
  (hw:¬ (sIx items.size 0 lo=0/\sIx items.size items.size hi=items.size))
  (h:Q (.ref s.heap.objs.size) { s with heap:=s.heap.push { cls:=.type "tuple",data:=.seq ((items.toList.drop (sIx items.size 0 lo)).take (sIx items.size items.size hi - sIx items.size 0 lo)).toArray } })
  (hsz:items.size<=sizeLine):wpAny (model prog w) A (getItem (.ref t) (.ref sl)) Q E s:=by
 have htake:sizeOk (.seq ((items.toList.drop (sIx items.size 0 lo)).take (sIx items.size items.size hi - sIx items.size 0 lo)).toArray):=by
  show ((items.toList.drop (sIx items.size 0 lo)).take (sIx items.size items.size hi - sIx items.size 0 lo)).toArray.size<=sizeLine
  rw [List.size_toArray,List.length_take,List.length_drop,Array.length_toList]
  omega
 have hj:sIx items.size items.size hi<=items.size:=sIx_le _ _ (Nat.le_refl _) hi
 obtain ⟨os,hos,hcs,hds⟩:=id hs
 have hTs:s.TypeIs (.ref sl) "slice" := ⟨os,hos,hcs⟩
 unfold getItem
 try with_reducible refine wpAny_holding ?_
 first | refine wpAny_bind (wpAny_pure ?_) | skip
 refine wpAny_bind (wpAny_sequenceKey ht.typeIs (by decide) ?_)
 refine wpAny_bind (wpAny_callSpecial?_slot (name:=Str.ofString "__getitem__") ht.typeIs PyProof.Rows.slot_tuple_getitem
  (wpAny_call_entry PyProof.Rows.slot_tuple_getitem ht.typeIs entry_tuple_getitem ?_ (args_tuple_getitem _ _)))
 show wpAny _ _ (Builtin.Tuple.tupleItemsOf (.ref t) >>= _) _ _ s
 refine wpAny_bind (tupleItemsOf_ ht ?_)
 refine wpAny_bind (wpAny_typeOf hTs ?_)
 rw [if_pos (by decide)]
 refine wpAny_bind (sliceApplied_gen hs pl pu ?_)
 have hno:¬ ((((sIx items.size 0 lo:Nat):Int) == 0 && (1:Int) == 1 && (sIx items.size items.size hi - sIx items.size 0 lo) == items.size)=true):=by
  intro q
  rw [Bool.and_eq_true,Bool.and_eq_true] at q
  have q1:((sIx items.size 0 lo:Nat):Int)=0:=eq_of_beq q.1.1
  have q2:sIx items.size items.size hi - sIx items.size 0 lo=items.size:=eq_of_beq q.2
  exact hw ⟨by omega,by omega⟩
 show wpAny _ _ (if (((sIx items.size 0 lo:Nat):Int) == 0 && (1:Int) == 1 && (sIx items.size items.size hi - sIx items.size 0 lo) == items.size)=true then _ else _) _ _ s
 rw [if_neg hno,pick_gen]
 first
  | exact wpAny_bind (m:=Builtin.Tuple.tupleExact _) (wpAny_newObj_type (wpAny_pure ⟨_,rfl,wpAny_pure h⟩) htake)
  | exact wpAny_bind (m:=Builtin.Tuple.tupleExact _) (wpAny_newObj_type (wpAny_bind (wpAny_pure (wpAny_pure ⟨_,rfl,wpAny_pure h⟩))) htake)
  | exact wpAny_bind (wpAny_bind (m:=Builtin.Tuple.tupleExact _) (wpAny_newObj_type (wpAny_pure (wpAny_pure ⟨_,rfl,wpAny_pure h⟩)) htake))
  | exact wpAny_bind (wpAny_bind (m:=Builtin.Tuple.tupleExact _) (wpAny_newObj_type (wpAny_pure ⟨_,rfl,wpAny_pure h⟩) htake))
end
end HT
namespace L2
open PySem PySem.Spec PyProof.Rows
abbrev TO:=St->Hp->(Option Int->Hp->Prop)->Prop
def PO (X:Cx) (e:Option Expr) (t:TO):Prop:=
 ∀ (pins:List (Addr × Obj)) (s:Shared) (σ:St) (H:Hp) (Q:Option Int->Hp->Prop),Inv X pins σ H s->t σ H Q →
  wpAny (model X.prog X.w) X.A (evalPart e X.env) (fun u s'=>∃ o H',Inv X pins σ H' s'/\IsPart u o/\Q o H') X.xe s
def tNoPart:TO:=fun _ H Q=>Q none H
def tPart (t:TE):TO:=fun σ H Q=>t σ H fun x H1=>∃ i,x=.int i/\Q (some i) H1
section
variable {X:Cx} {e:Expr} {te:TE} {lo hi:Option Expr} {tl th:TO} {pos p2:Pos}
theorem po_none:PO X none tNoPart:=by
 intro pins s σ H Q I h
 rw [evalPart_none]
 exact wpAny_pure ⟨none,H,I,.none,h⟩
theorem po_some (h:PE X e te):PO X (some e) (tPart te):=by
 intro pins s σ H Q I hw
 rw [evalPart_some]
 refine thn (h pins s σ H _ I hw) fun u s1 ⟨x,H1,I1,r1,q1⟩=>?_
 obtain ⟨i,rfl,q⟩:=q1
 obtain ⟨t,rfl⟩:=r1
 exact ⟨some i,H1,I1,.int i t,q⟩
def SlR (X:Cx) (r:V->Option Int->Option Int->Hp->VK->Prop):Prop:=
 ∀ (pins:List (Addr × Obj)) (s:Shared) (σ:St) (H:Hp) (x:V) (v vl vu:Value) (lo hi:Option Int) (sl:Addr) (Q:VK),Inv X pins σ H s->RelV x v->s.heap.IsSliceOf sl vl vu .none->IsPart vl lo->IsPart vu hi->r x lo hi H Q →
  ∃ T id,typeLookup (.type T) "__getitem__" = pure (some (.builtin id))/\s.TypeIs v T/\wpAny (model X.prog X.w) X.A (getItem v (.ref sl)) (EP X pins σ Q) X.xe s
def tSl (r:V->Option Int->Option Int->Hp->VK->Prop) (te:TE) (tl th:TO):TE:=fun σ H Q=>te σ H fun x H1=>tl σ H1 fun l H2=>th σ H2 fun u H3=>r x l u H3 Q
theorem pe_slice {r:V->Option Int->Option Int->Hp->VK->Prop} (hr:SlR X r) (he:PE X e te) (hl:PO X lo tl) (hu:PO X hi th):PE X (.Subscript e (.Slice lo hi none p2) pos) (tSl r te tl th):=by
 intro pins s σ H Q I h
 refine Subscript_ (thn (he pins s σ H _ I h) fun v s1 ⟨x,H1,I1,r1,q1⟩=>?_)
 refine wpAny_Slice (thn (hl pins s1 σ H1 _ I1 q1) fun vl s2 ⟨l,H2,I2,pl,q2⟩=>thn (hu pins s2 σ H2 _ I2 q2) fun vu s3 ⟨u,H3,I3,pu,q3⟩=>?_)
 rw [evalPart_none]
 refine wpAny_pure ?_
 have I4:Inv X pins σ H3 { s3 with heap:=s3.heap.push { cls:=.type "slice",data:=.fields #[vl,vu,.none] } }:=I3.kept (t':=s3.toks) fun b ob q=>Heap.get?_push_of_some _ q
 obtain ⟨T,id,hT,ht,hg⟩:=hr pins { s3 with heap:=s3.heap.push { cls:=.type "slice",data:=.fields #[vl,vu,.none] } } σ H3 x v vl vu l u s3.heap.objs.size Q I4 r1 (Heap.IsSliceOf.new ..) pl pu q3
 show wpAny (model X.prog X.w) X.A (subscriptTail e (.Slice lo hi none p2) v (.ref s3.heap.objs.size)) (EP X pins σ Q) X.xe { s3 with heap:=s3.heap.push { cls:=.type "slice",data:=.fields #[vl,vu,.none] } }
 exact tail_any (ops:=[.ref s3.heap.objs.size,v]) ht hT hg (by with_unfolding_all rfl)
def cutV (xs:List V) (lo hi:Option Int):List V:=(xs.drop (HT.sIx xs.length 0 lo)).take (HT.sIx xs.length xs.length hi - HT.sIx xs.length 0 lo)
theorem cutV_length (xs:List V) (lo hi:Option Int):(cutV xs lo hi).length<=xs.length:=by
 unfold cutV
 rw [List.length_take,List.length_drop]
 omega
def rSlT (K:PySem.W.Frag):V->Option Int->Option Int->Hp->VK->Prop:=fun x lo hi H Q=>∃ a xs,x=.ref a/\SqT K H a xs ∧
 ¬ (HT.sIx xs.length 0 lo=0/\HT.sIx xs.length xs.length hi=xs.length)/\∀ p,H p=none->Q (.ref p) (upd H p (.tup (cutV xs lo hi)))
theorem sl_tup:SlR X (rSlT X.K):=by
 intro pins s σ H x v vl vu lo hi sl Q I rx hs pl pu h
 obtain ⟨a,xs,rfl,hx,hw,q⟩:=h
 cases rx
 obtain ⟨its,r,ht,hz⟩:=I.tuple hx
 have hlen:its.toArray.size=xs.length:=by rw [List.size_toArray];exact r.length.symm
 refine ⟨"tuple",_,PyProof.Rows.slot_tuple_getitem.lookup,ht.typeIs,?_⟩
 refine HT.getItem_tuple_cut ht hs pl pu (by rw [hlen];exact hw) ?_ (by rw [hlen];exact hz)
 rw [hlen]
 refine ⟨.ref s.heap.objs.size,_,I.laid (t':=s.toks) (o:=.tup (cutV xs lo hi)) (fun b ob q=>Heap.get?_push_of_some _ q) (Nat.le_refl _) ?_,rfl,q _ (I.hok.fresh (Nat.le_refl _))⟩
 exact ⟨Nat.le_trans (cutV_length xs lo hi) hz,_,(r.drop (HT.sIx xs.length 0 lo)).take (HT.sIx xs.length xs.length hi - HT.sIx xs.length 0 lo),IsTup.new _ _⟩
def rCatT (K:PySem.W.Frag):R2:=fun x y H Q=>∃ a b xs ys,x=.ref a/\y=.ref b/\SqT K H a xs/\SqT K H b ys/\xs ≠ []/\xs.length+ys.length<=sizeLine ∧
 (ys=[]->Q (.ref a) H)/\(ys ≠ []->∀ p,H p=none->Q (.ref p) (upd H p (.tup (xs++ys))))
theorem Vals.nil_iff {xs:List V} {us:List Value} (r:Vals xs us):us=[] ↔ xs=[]:=by
 cases r with
 | nil=>simp
 | cons _ _=>simp
theorem op_catT:OpR X (binaryOp .Add) (rCatT X.K):=by
 intro pins s σ H x y v u Q I rx ry h
 obtain ⟨a,b,xs,ys,rfl,rfl,ha,hb,hx,hz,q1,q2⟩:=h
 cases rx
 cases ry
 obtain ⟨its,r1,p1,_⟩:=I.tuple ha
 obtain ⟨its2,r2,p2,_⟩:=I.tuple hb
 refine HT.cat_tup p1 p2 (fun z=>hx (r1.nil_iff.mp z)) (fun z=>⟨.ref a,H,I,rfl,q1 (r2.nil_iff.mp z)⟩) (fun z=>?_) (by rw [<-r1.length,<-r2.length];exact hz)
 refine ⟨.ref s.heap.objs.size,_,I.laid (t':=s.toks) (o:=.tup (xs++ys)) (fun b ob q=>Heap.get?_push_of_some _ q) (Nat.le_refl _) ?_,rfl,q2 (fun w=>z (r2.nil_iff.mpr w)) _ (I.hok.fresh (Nat.le_refl _))⟩
 exact ⟨by rw [List.length_append];exact hz,_,r1.append r2,IsTup.new _ _⟩
end
end L2
namespace L2
open PySem PySem.Spec PyProof.Rows
def ixN (n:Nat) (i:Int):Option Nat:=if 0<=i then (if i < n then some i.toNat else none) else if -(n:Int)<=i then some (i+n).toNat else none
def atI {α:Type} (xs:List α) (i:Int):Option α:=(ixN xs.length i).bind fun j=>xs[j]?
theorem ixN_seq {n:Nat} {i:Int} {j:Nat} (h:ixN n i=some j):seqIndex? i n=some j/\j < n/\-(n:Int)<=i/\i < n:=by
 unfold ixN at h
 by_cases h0:0<=i
 ·rw [if_pos h0] at h
  by_cases h1:i < n
  ·rw [if_pos h1] at h
   have e:i.toNat=j:=Option.some.inj h
   exact ⟨by rw [seqIndex_of h0 h1,e],by omega,by omega,h1⟩
  ·rw [if_neg h1] at h;cases h
 ·rw [if_neg h0] at h
  by_cases h1:-(n:Int)<=i
  ·rw [if_pos h1] at h
   have e:(i+n).toNat=j:=Option.some.inj h
   exact ⟨by rw [seqIndex_neg (by omega) h1,e],by omega,h1,by omega⟩
  ·rw [if_neg h1] at h;cases h
theorem atI_get {α:Type} {xs:List α} {i:Int} {v:α} (h:atI xs i=some v):∃ j,seqIndex? i xs.length=some j/\xs[j]?=some v/\j < xs.length/\-(xs.length:Int)<=i/\i < xs.length:=by
 unfold atI at h
 cases e:ixN xs.length i with
 | none=>rw [e] at h;cases h
 | some j=>
  rw [e] at h
  obtain ⟨h1,h2,h3,h4⟩:=ixN_seq e
  exact ⟨j,h1,h,h2,h3,h4⟩
theorem atI_nat {α:Type} {xs:List α} {j:Nat} {v:α} (h:xs[j]?=some v):atI xs (j:Int)=some v:=by
 have hj:j < xs.length:=(List.getElem?_eq_some_iff.mp h).1
 have e:ixN xs.length (j:Int)=some j:=by
  unfold ixN
  rw [if_pos (by omega),if_pos (by omega)];simp
 unfold atI;rw [e];exact h
theorem atI_last {α:Type} (xs:List α) (v:α):atI (xs++[v]) (-1)=some v:=by
 have hl:(xs++[v]).length=xs.length+1:=by simp
 have e:ixN (xs++[v]).length (-1)=some xs.length:=by
  unfold ixN
  rw [hl,if_neg (by decide),if_pos (by omega)]
  congr 1
  omega
 unfold atI
 rw [e]
 show (xs++[v])[xs.length]?=some v
 simp
def PlainIx (b:Expr):Prop:=∀ o i,subscripted b false o i=operate [o,i] (getItem o i)
def IxR (X:Cx) (r:R2):Prop:=
 ∀ (value slice:Expr) (pins:List (Addr × Obj)) (s:Shared) (σ:St) (H:Hp) (x y:V) (v u:Value) (Q:VK),Inv X pins σ H s->RelV x v->RelV y u->r x y H Q →
  subscripted slice false v u=operate [v,u] (getItem v u)->wpAny (model X.prog X.w) X.A (subscriptTail value slice v u) (EP X pins σ Q) X.xe s
def MtR (X:Cx) (id:String) (r:V->List V->Hp->VK->Prop):Prop:=
 ∀ (pins:List (Addr × Obj)) (s:Shared) (σ:St) (H:Hp) (x:V) (xs:List V) (v:Value) (us:List Value) (Q:VK),Inv X pins σ H s->RelV x v->Vals xs us->r x xs H Q →
  wpAny (model X.prog X.w) X.A (call (.builtin id) (v :: us)) (EP X pins σ Q) X.xe s
section
variable {X:Cx} {a b:Expr} {ta tb:TE} {pos:Pos}
theorem pe_ix {r:R2} (hr:IxR X r) (ha:PE X a ta) (hb:PE X b tb) (hs:PlainIx b):PE X (.Subscript a b pos) (tOp r ta tb):=by
 intro pins s σ H Q I h
 exact Subscript_ (binT ha hb I h fun v u s2 x y H2 I2 rx ry q=>hr a b pins s2 σ H2 x y v u Q I2 rx ry q (hs _ _))
def rIxL (K:PySem.W.Frag):R2:=fun x y H Q=>∃ p xs i v,x=.ref p/\y=.int i/\SqL K H p xs/\atI xs i=some v/\Q v H
def rIxT (K:PySem.W.Frag):R2:=fun x y H Q=>∃ p xs i v,x=.ref p/\y=.int i/\SqT K H p xs/\atI xs i=some v/\Q v H
def rIxS:R2:=fun x y H Q=>∃ z i c,x=.str z/\y=.int i/\z.length<=sizeLine/\atI z.cps.toList i=some c/\Q (.str ⟨#[c]⟩) H
theorem ix_list:IxR X (rIxL X.K):=by
 intro value slice pins s σ H x y v u Q I rx ry h hs
 obtain ⟨p,xs,i,z,rfl,rfl,hq,he,q⟩:=h
 cases rx
 obtain ⟨t,rfl⟩:=ry
 obtain ⟨its,r,pl,hz⟩:=I.list hq
 obtain ⟨j,h1,h2,h3,h4,h5⟩:=atI_get he
 obtain ⟨w,ew,rw'⟩:=r.get h2
 have hl:=r.length
 have hn:=line63
 have fin:EP X pins σ Q w s:=⟨z,H,I,rw',q⟩
 by_cases h0:0<=i
 ·have hj:i.toNat=j:=by
   rw [seqIndex_of h0 h5] at h1
   exact Option.some.inj h1
  exact item_listR pl.isList h0 (by omega) (by rw [hj];simpa using ew) fin hs
 ·have hj:(i+(its.toArray.size:Int)).toNat=j:=by
   rw [seqIndex_neg (by omega) h4] at h1
   rw [List.size_toArray,<-hl]
   exact Option.some.inj h1
  exact subscriptTail_builtinR (x:=w) pl.isList.typeIs slot_list_getitem.lookup
   (wpAny_getItem_list_neg (Q:=fun r s'=>r=w/\EP X pins σ Q r s') pl.isList (by omega) (by rw [List.size_toArray] <;> omega) (by omega) (by rw [hj];simpa using ew) ⟨rfl,fin⟩) hs
theorem ix_tup:IxR X (rIxT X.K):=by
 intro value slice pins s σ H x y v u Q I rx ry h hs
 obtain ⟨p,xs,i,z,rfl,rfl,hq,he,q⟩:=h
 cases rx
 obtain ⟨t,rfl⟩:=ry
 obtain ⟨its,r,pl,hz⟩:=I.tuple hq
 obtain ⟨j,h1,h2,h3,h4,h5⟩:=atI_get he
 obtain ⟨w,ew,rw'⟩:=r.get h2
 have hl:=r.length
 have hn:=line63
 have fin:EP X pins σ Q w s:=⟨z,H,I,rw',q⟩
 exact subscriptTail_builtinR (x:=w) pl.typeIs slot_tuple_getitem.lookup
  (getItem_tuple (j:=j) (Q:=fun r s'=>r=w/\EP X pins σ Q r s') pl (by omega) (by omega) (by rw [List.size_toArray,<-hl];exact h1) (by simpa using ew) ⟨rfl,fin⟩) hs
theorem ix_str:IxR X rIxS:=by
 intro value slice pins s σ H x y v u Q I rx ry h hs
 obtain ⟨z,i,c,rfl,rfl,hz,he,q⟩:=h
 obtain ⟨t,rfl⟩:=rx
 obtain ⟨t',rfl⟩:=ry
 obtain ⟨j,h1,h2,h3,h4,h5⟩:=atI_get he
 have hl:z.cps.toList.length=z.length:=by simp [Str.length]
 rw [hl] at h1 h4 h5
 have hn:=line63
 exact tail_any (typeIs_str s z t) slot_str_getitem.lookup (getItem_str (c:=c) (by
  have e1:decide (i < -(2 ^ 63:Int))=false:=decide_eq_false (by omega)
  have e2:decide (i ≥ 2 ^ 63)=false:=decide_eq_false (by omega)
  rw [e1,e2,Bool.or_false]) (by rw [h1];simpa using h2) ⟨.str ⟨#[c]⟩,H,I.tok _,⟨_,rfl⟩,q⟩) hs
theorem mapSeq_set (its:List Value) (n j:Nat) (u:Value):Obj.mapSeq (·.setIfInBounds j u) { cls:=.type "list",data:=.seq its.toArray n }={ cls:=.type "list",data:=.seq (its.set j u).toArray n }:=by
 simp [Obj.mapSeq]
theorem Inv.lst {pins:List (Addr × Obj)} {σ:St} {H:Hp} {s:Shared} {p:Addr} {xs:List V} (I:Inv X pins σ H s) (h:H p=some (.lst xs)) :
  ∃ (its:List Value) (n:Nat),Vals xs its/\s.heap.get? p=some { cls:=.type "list",data:=.seq its.toArray n }/\xs.length<=sizeLine:=by
 obtain ⟨z,its,n,r,e⟩:=I.hok p _ h
 exact ⟨its,n,r,e,z⟩
theorem Inv.lstUpd {pins:List (Addr × Obj)} {σ:St} {H:Hp} {s:Shared} {p:Addr} {xs ys:List V} {its its':List Value} {n n':Nat} {f:Obj->Obj} (I:Inv X pins σ H s) (h:H p=some (.lst xs))
  (ho:s.heap.get? p=some { cls:=.type "list",data:=.seq its.toArray n }) (hf:f { cls:=.type "list",data:=.seq its.toArray n }={ cls:=.type "list",data:=.seq its'.toArray n' }) (r:Vals ys its') (hz:ys.length<=sizeLine) (t:Nat) :
  Inv X pins σ (upd H p (.lst ys)) { s with heap:=s.heap.update p f,toks:=t }:=by
 have e:(s.heap.update p f).get? p=some { cls:=.type "list",data:=.seq its'.toArray n' }:=by
  rw [Heap.get?_update_self f ho (by rw [hf] <;> rfl),hf]
 refine I.write (x:=p) (e:=p) (by rw [h];trivial) (.inl rfl) (fun b u hb q=>(Heap.get?_update_other _ _ (Ne.symm hb)).trans q) ⟨_,e⟩ ?_
 exact ⟨hz,its',n',r,e⟩
def rSetL:V->V->V->Hp->(Hp->Prop)->Prop:=fun o i v H Q=>∃ p xs k j,o=.ref p/\i=.int k/\H p=some (.lst xs)/\ixN xs.length k=some j/\Q (upd H p (.lst (xs.set j v)))
theorem set_list:PSet X rSetL:=by
 intro pins s σ H o i v ov iv u Q I ro ri rv h
 obtain ⟨p,xs,k,j,rfl,rfl,hp,hj,q⟩:=h
 cases ro
 obtain ⟨t,rfl⟩:=ri
 obtain ⟨its,n,r,ho,hz⟩:=I.lst hp
 obtain ⟨h1,h2,h3,h4⟩:=ixN_seq hj
 have hl:=r.length
 have hn:=line63
 have I':Inv X pins σ (upd H p (.lst (xs.set j v))) { s with heap:=s.heap.update p (Obj.mapSeq (·.setIfInBounds j u)) }:=
  I.lstUpd hp ho (mapSeq_set its n j u) (r.set rv j) (by rw [List.length_set];exact hz) s.toks
 by_cases h0:0<=k
 ·have hk:k.toNat=j:=by
   rw [seqIndex_of h0 h4] at h1
   exact Option.some.inj h1
  exact PySem.W.ki_setAt ho h0 (by omega) (by rw [List.size_toArray,<-hl];exact h4) (by rw [hk];exact ⟨_,I',q⟩)
 ·have hk:(k+(its.toArray.size:Int)).toNat=j:=by
   rw [seqIndex_neg (by omega) h3] at h1
   rw [List.size_toArray,<-hl]
   exact Option.some.inj h1
  exact PySem.W.ki_setBack ho (by omega) (by rw [List.size_toArray,<-hl];exact h3) (by omega) (by rw [hk];exact ⟨_,I',q⟩)
def flatV:V->Bool
 | .non=>true
 | .bl _=>true
 | .int _=>true
 | .str _=>true
 | _=>false
def eqV:V->V->Bool
 | .non,.non=>true
 | .bl a,.bl b=>a == b
 | .bl a,.int b=>(if a then 1 else 0) == b
 | .int a,.bl b=>a == (if b then 1 else 0)
 | .int a,.int b=>a == b
 | .str a,.str b=>a == b
 | _,_=>false
theorem eqAt_V {A:Around} {s:Shared} {y x:V} {u v:Value} (ry:RelV y u) (rx:RelV x v) (fy:flatV y=true) (fx:flatV x=true):SeqAt.EqAt A s u v (eqV y x):=by
 cases y with
 | non=>
  cases ry
  cases x with
  | non=>cases rx;exact SeqAt.EqAt.same _
  | bl b=>cases rx;exact SeqAt.EqAt.none_bool b
  | int b=>obtain ⟨t,rfl⟩:=rx;exact SeqAt.EqAt.none_int b t
  | str b=>obtain ⟨t,rfl⟩:=rx;exact SeqAt.EqAt.none_str b t
  | _=>exact absurd (show false=true from fx) Bool.false_ne_true
 | bl a=>
  cases ry
  cases x with
  | non=>cases rx;exact SeqAt.EqAt.bool_none a
  | bl b=>cases rx;exact SeqAt.EqAt.bool_bool a b
  | int b=>obtain ⟨t,rfl⟩:=rx;exact SeqAt.EqAt.bool_int a b t
  | str b=>obtain ⟨t,rfl⟩:=rx;exact SeqAt.EqAt.bool_str a b t
  | _=>exact absurd (show false=true from fx) Bool.false_ne_true
 | int a=>
  obtain ⟨t',rfl⟩:=ry
  cases x with
  | non=>cases rx;exact SeqAt.EqAt.int_none a t'
  | bl b=>cases rx;exact SeqAt.EqAt.int_bool a t' b
  | int b=>obtain ⟨t,rfl⟩:=rx;exact SeqAt.EqAt.int_int a t' b t
  | str b=>obtain ⟨t,rfl⟩:=rx;exact SeqAt.EqAt.int_str a t' b t
  | _=>exact absurd (show false=true from fx) Bool.false_ne_true
 | str a=>
  obtain ⟨t',rfl⟩:=ry
  cases x with
  | non=>cases rx;exact SeqAt.EqAt.str_none a t'
  | bl b=>cases rx;exact SeqAt.EqAt.str_bool a t' b
  | int b=>obtain ⟨t,rfl⟩:=rx;exact SeqAt.EqAt.str_int a t' b t
  | str b=>obtain ⟨t,rfl⟩:=rx;exact SeqAt.EqAt.str_str a t' b t
  | _=>exact absurd (show false=true from fx) Bool.false_ne_true
 | _=>exact absurd (show false=true from fy) Bool.false_ne_true
def eqU (x:V) (u:Value):Bool:=match u with
 | .none=>eqV .non x
 | .bool b=>eqV (.bl b) x
 | .int i _=>eqV (.int i) x
 | .str z _=>eqV (.str z) x
 | _=>false
theorem eqU_of {x y:V} {u:Value} (r:RelV y u) (f:flatV y=true):eqU x u=eqV y x:=by
 cases y with
 | non=>cases r;rfl
 | bl b=>cases r;rfl
 | int i=>obtain ⟨t,rfl⟩:=r;rfl
 | str z=>obtain ⟨t,rfl⟩:=r;rfl
 | _=>exact absurd (show false=true from f) Bool.false_ne_true
theorem any_eqU {x:V}:∀ {xs:List V} {us:List Value},Vals xs us->xs.all flatV=true->us.any (eqU x)=xs.any fun y=>eqV y x
 | _,_,.nil,_=>rfl
 | y :: xs,u :: us,.cons r t,f=>by
  rw [List.all_cons,Bool.and_eq_true] at f
  rw [List.any_cons,List.any_cons,eqU_of r f.1,any_eqU t f.2]
theorem mem_eqAt {A:Around} {s:Shared} {x:V} {v:Value} (rx:RelV x v) (fx:flatV x=true):∀ {xs:List V} {us:List Value},Vals xs us->xs.all flatV=true->∀ u ∈ us,SeqAt.EqAt A s u v (eqU x u)
 | _,_,.nil,_=>fun u hu=>by cases hu
 | y :: xs,u :: us,.cons r t,f=>fun u' hu=>by
  rw [List.all_cons,Bool.and_eq_true] at f
  rcases List.mem_cons.mp hu with rfl | hu
  ·rw [eqU_of r f.1];exact eqAt_V r rx f.1 fx
  ·exact mem_eqAt rx fx t f.2 u' hu
def inV (x:V) (xs:List V):Bool:=xs.any fun y=>eqV y x
def rIn (K:PySem.W.Frag) (neg:Bool):R2:=fun x y H Q=>∃ p xs,y=.ref p/\(SqL K H p xs\/SqT K H p xs)/\flatV x=true/\xs.all flatV=true/\Q (.bl (if neg then !inV x xs else inV x xs)) H
theorem op_in_seq:OpR X (compareOp .In) (rIn X.K false):=by
 intro pins s σ H x y v u Q I rx ry h
 obtain ⟨p,xs,rfl,hq,fx,fs,q⟩:=h
 cases ry
 rcases hq with hq | hq
 ·obtain ⟨its,r,pl,hz⟩:=I.list hq
  refine SeqAt.in_listAt (eqU x) pl.isList (fun w hw=>mem_eqAt rx fx r fs w (by simpa using hw)) ⟨.bl _,H,I,rfl,?_⟩
  rw [show its.toArray.any (eqU x)=its.any (eqU x) by simp,any_eqU r fs]
  exact q
 ·obtain ⟨its,r,pl,hz⟩:=I.tuple hq
  refine SeqAt.in_tupleAt (eqU x) pl (fun w hw=>mem_eqAt rx fx r fs w (by simpa using hw)) ⟨.bl _,H,I,rfl,?_⟩
  rw [show its.toArray.any (eqU x)=its.any (eqU x) by simp,any_eqU r fs]
  exact q
theorem call_len_seq:CallR X (.builtin "len") (fun xs H Q=>∃ p ys,xs=[.ref p]/\(SqL X.K H p ys\/SqT X.K H p ys)/\Q (.int ys.length) H):=by
 intro pins s σ H xs us Q I r h
 obtain ⟨p,ys,rfl,hq,q⟩:=h
 obtain ⟨u,rfl,rx⟩:=vals1 r
 cases rx
 have hn:=line63
 rcases hq with hq | hq
 ·obtain ⟨its,r',pl,hz⟩:=I.list hq
  have hlen:=r'.length
  exact Calls.call_len_list pl.isList (by simp only [List.size_toArray] <;> omega) ⟨.int ys.length,H,I.tok _,⟨s.toks+1,by rw [List.size_toArray,hlen]⟩,q⟩
 ·obtain ⟨its,r',pl,hz⟩:=I.tuple hq
  have hlen:=r'.length
  exact len_tuple pl (by simp only [List.size_toArray] <;> omega) ⟨.int ys.length,H,I.tok _,⟨s.toks+1,by rw [List.size_toArray,hlen]⟩,q⟩
theorem call_len_str:CallR X (.builtin "len") (fun xs H Q=>∃ z,xs=[.str z]/\z.length<=sizeLine/\Q (.int z.length) H):=by
 intro pins s σ H xs us Q I r h
 obtain ⟨z,rfl,hz,q⟩:=h
 obtain ⟨u,rfl,t,rfl⟩:=vals1 r
 have hn:=line63
 exact len_str (by omega) ⟨.int z.length,H,I.tok _,⟨_,rfl⟩,q⟩
theorem call_list_of:CallR X (.type "list") (fun xs H Q=>∃ p ys,xs=[.ref p]/\(SqL X.K H p ys\/SqT X.K H p ys)/\∀ l,H l=none->Q (.ref l) (upd H l (.lst ys))):=by
 intro pins s σ H xs us Q I r h
 obtain ⟨p,ys,rfl,hq,q⟩:=h
 obtain ⟨u,rfl,rx⟩:=vals1 r
 cases rx
 have fin:∀ (its:List Value),Vals ys its->ys.length<=sizeLine->∀ (h':Heap) (c':Nat),(∀ b o',s.heap.get? b=some o'->h'.get? b=some o') →
   h'.get? s.heap.objs.size=some { cls:=.type "list",dict:=none,data:=.seq its.toArray c',slots:=#[] }->EP X pins σ Q (.ref s.heap.objs.size) { s with heap:=h' }:=fun its r' hz h' c' kp e=>
  ⟨.ref s.heap.objs.size,_,I.laid (t':=s.toks) kp (Nat.le_refl _) (show ObjOk X.prog X.w _ h' _ (.lst ys) from ⟨hz,its,c',r',e⟩),rfl,q _ (I.hok.fresh (Nat.le_refl _))⟩
 rcases hq with hq | hq
 ·obtain ⟨its,r',pl,hz⟩:=I.list hq
  have hlen:=r'.length
  obtain ⟨o,ho,hc,n,hd⟩:=pl.isList
  exact call_list_seq p (.inl rfl) ho hc hd (fun h' c' kp e=>fin its r' hz h' c' kp e) (by simp only [List.size_toArray] <;> omega)
 ·obtain ⟨its,r',pl,hz⟩:=I.tuple hq
  have hlen:=r'.length
  obtain ⟨o,ho,hc,n,hd⟩:=pl
  exact call_list_seq p (.inr rfl) ho hc hd (fun h' c' kp e=>fin its r' hz h' c' kp e) (by simp only [List.size_toArray] <;> omega)
theorem call_tuple_of:CallR X (.type "tuple") (fun xs H Q=>∃ p ys,xs=[.ref p]/\((SqL X.K H p ys/\∀ l,H l=none->Q (.ref l) (upd H l (.tup ys)))\/(SqT X.K H p ys/\Q (.ref p) H))):=by
 intro pins s σ H xs us Q I r h
 obtain ⟨p,ys,rfl,h⟩:=h
 obtain ⟨u,rfl,rx⟩:=vals1 r
 cases rx
 rcases h with ⟨hq,q⟩ | ⟨hq,q⟩
 ·obtain ⟨its,r',pl,hz⟩:=I.list hq
  have hlen:=r'.length
  refine call_tuple_list pl.isList (fun h' kp=>?_) (by simp only [List.size_toArray] <;> omega)
  have I1:Inv X pins σ H { s with heap:=h' }:=I.kept (t':=s.toks) kp
  have I2:Inv X pins σ (upd H h'.objs.size (.tup ys)) { s with heap:=h'.push { cls:=.type "tuple",data:=.seq its.toArray } }:=
   I1.laid (t':=s.toks) (fun b o e=>Heap.get?_push_of_some _ e) (Nat.le_refl _) (show ObjOk X.prog X.w _ _ _ (.tup ys) from ⟨hz,its,r',IsTup.new _ _⟩)
  exact ⟨.ref h'.objs.size,_,I2,rfl,q _ (I1.hok.fresh (Nat.le_refl _))⟩
 ·obtain ⟨its,r',pl,hz⟩:=I.tuple hq
  exact call_tuple_same pl ⟨.ref p,H,I,rfl,q⟩
def tyV (K:PySem.W.Frag) (T:String) (x:V) (H:Hp):Prop:=match x with
 | .str _=>T = "str"
 | .int _=>T = "int"
 | .ref p=>(T = "list"/\∃ xs,SqL K H p xs)\/(T = "tuple"/\∃ o,K.lookup p=some o/\o.cls=.type "tuple"/\o.dict=none) ∨
   (T = "dict"/\((∃ kvs,H p=some (.dK kvs))\/∃ kvs,H p=some (.dT kvs)))\/(T = "set"/\∃ S n,H p=some (.set S n))
 | _=>False
theorem tyV_is {pins:List (Addr × Obj)} {σ:St} {H:Hp} {s:Shared} {T:String} {x:V} {v:Value} (I:Inv X pins σ H s) (r:RelV x v) (ty:tyV X.K T x H) :
  s.TypeIs v T/\∀ a,v=.ref a->∃ ob,s.heap.get? a=some ob/\ob.dict=none:=by
 cases x with
 | str z=>
  obtain ⟨t,rfl⟩:=r
  cases (show T = "str" from ty)
  exact ⟨typeIs_str s z t,fun _ e=>nomatch e⟩
 | int i=>
  obtain ⟨t,rfl⟩:=r
  cases (show T = "int" from ty)
  exact ⟨typeIs_int s i t,fun _ e=>nomatch e⟩
 | ref p=>
  cases r
  rcases ty with ⟨rfl,xs,hq⟩ | ⟨rfl,o,hk,hc,hd⟩ | ⟨rfl,hk⟩ | ⟨rfl,S,n,hk⟩
  ·obtain ⟨its,_,pl,_⟩:=I.list hq
   refine ⟨pl.isList.typeIs,fun a e=>?_⟩
   cases e
   obtain ⟨o,n,e,c,hd,_⟩:=pl
   exact ⟨o,e,hd⟩
  ·refine ⟨⟨o,I.kIn p o hk,hc⟩,fun a e=>?_⟩
   cases e
   exact ⟨o,I.kIn _ o hk,hd⟩
  ·have z:∃ o,s.heap.get? p=some o/\o.ExactDict:=by
    rcases hk with ⟨kvs,hk⟩ | ⟨kvs,hk⟩
    ·obtain ⟨_,_,_,_,o,_,_,e,ex,_⟩:=I.hok p _ hk
     exact ⟨o,e,ex⟩
    ·exact False.elim (show ObjOk X.prog X.w H s.heap p (.dT kvs) from I.hok p _ hk)
   obtain ⟨o,e,ex⟩:=z
   refine ⟨⟨o,e,ex.1⟩,fun a e2=>?_⟩
   cases e2
   exact ⟨o,e,ex.2.1⟩
  ·obtain ⟨o,_,_,_,e,ex,_⟩:=I.hok p _ hk
   refine ⟨⟨o,e,ex.1⟩,fun a e2=>?_⟩
   cases e2
   exact ⟨o,e,ex.2.1⟩
 | _=>exact False.elim ty
def tBM (K:PySem.W.Frag) (T:String) (r:V->List V->Hp->VK->Prop) (to:TE) (t:TA):TE:=fun σ H Q=>to σ H fun x H1=>tyV K T x H1/\t σ H1 fun xs H2=>r x xs H2 Q
variable {o e:Expr} {es:List Expr} {to:TE} {t:TA} {name:Str} {apos cpos:Pos} {T id:String} {r:V->List V->Hp->VK->Prop}
theorem pe_bm (pa:PlainAttrs T) (slot:Slot T name id) (hty:typeOf (.builtin id)=pure (.type "method_descriptor")) (hm:MtR X id r) (ho:PE X o to) (ha:PA X (e :: es) t)
  (hbase:attributeBase o name X.env (eval o X.env)=eval o X.env:=by rfl)
  (hfew:((backTo cpos (starEach (e :: es) X.env)).all (fun x=>!x.1) && (backToKw cpos (keywordEach [] X.env)).all (fun x=>x.1.isSome)
   && decide ((e :: es).length+([]:List Keyword).length+(if ([]:List Keyword).isEmpty then 0 else 1) < 30))=true:=by rfl)
  (hline:(apos.endLine == cpos.line)=true:=by rfl) (hs:starEach (e :: es) X.env=(false,eval e X.env) :: starEach es X.env:=by rfl) (hplain:(backTo cpos (starEach es X.env)).any (·.1)=false:=by rfl) :
  PE X (.Call (.Attribute o name apos) (e :: es) [] cpos) (tBM X.K T r to t):=by
 intro pins s σ H Q I h
 refine wpAny_Call_method_late hbase hfew hline rfl (thn (ho pins s σ H _ I h) fun v s1 ⟨x,H1,I1,r1,ty,q1⟩=>?_)
 obtain ⟨h1,h2⟩:=tyV_is I1 r1 ty
 refine ⟨T,id,pa,slot,hty,h1,h2,?_⟩
 have hA:=ha cpos pins s1 σ H1 _ I1 q1
 rw [hs] at hA ⊢
 refine Calls.callWith_builtin (by show (false || (backTo cpos (starEach es X.env)).any (·.1))=false;rw [hplain] <;> rfl) (Calls.evalArgs_plain ?_)
 exact thn hA fun us s2 ⟨vs,H2,I2,r2,q2⟩=>hm pins s2 σ H2 x vs v us Q I2 r1 r2 q2
/- xs.append(e),list.index on a module's tuple .. are MtR facts of 06m -/
end
end L2
namespace L2
open PySem PySem.Spec PyProof.Rows
def MtM (X:Cx) (id:String) (r:V->List V->Hp->VK->Prop):Prop:=
 ∀ (pins:List (Addr × Obj)) (s:Shared) (σ:St) (H:Hp) (x:V) (xs:List V) (v:Value) (us:List Value) (Q:VK),Inv X pins σ H s->RelV x v->Vals xs us->r x xs H Q →
  wpAny (model X.prog X.w) X.A (call (.builtin id) (v :: us)) (EP X pins σ Q) X.xe s
theorem Vals.one:∀ {x:V} {us:List Value},Vals [x] us->∃ u,us=[u]/\RelV x u
 | _,_,.cons r .nil=>⟨_,rfl,r⟩
theorem Vals.two:∀ {x y:V} {us:List Value},Vals [x,y] us->∃ u v,us=[u,v]/\RelV x u/\RelV y v
 | _,_,_,.cons r (.cons q .nil)=>⟨_,_,rfl,r,q⟩
section
variable {X:Cx} {pins:List (Addr × Obj)} {σ:St} {H:Hp} {s:Shared} {l b:Addr} {xs ys zs:List V}
theorem Inv.lset {its its':List Value} {n:Nat} {f:Array Value->Array Value} {t':Nat} (I:Inv X pins σ H s) (hH:H l=some (.lst xs))
  (e:s.heap.get? l=some { cls:=.type "list",data:=.seq its.toArray n }) (hf:f its.toArray=its'.toArray) (hv:Vals ys its') (hz:ys.length<=sizeLine) :
  Inv X pins σ (upd H l (.lst ys)) { s with heap:=s.heap.update l (Obj.mapSeq f),toks:=t' }:=by
 have q:=PySem.IsL.update e f
 rw [hf] at q
 refine I.write (x:=l) (e:=l) (by rw [hH];exact trivial) (.inl rfl) (fun b' u hb hu=>(Heap.get?_update_other s.heap (Obj.mapSeq f) (Ne.symm hb)).trans hu) ⟨_,q⟩ ?_
 exact ⟨hz,its',_,hv,q⟩
theorem Inv.lnew {its:List Value} {t':Nat} (I:Inv X pins σ H s) (hv:Vals ys its) (hz:ys.length<=sizeLine) :
  Inv X pins σ (upd H s.heap.objs.size (.lst ys)) { s with heap:=s.heap.push { cls:=.type "list",data:=.seq its.toArray },toks:=t' }:=
 I.laid (fun _ _ q=>Heap.get?_push_of_some _ q) (Nat.le_refl _) ⟨hz,its,0,hv,Heap.get?_push_size _ rfl⟩
theorem Inv.fresh (I:Inv X pins σ H s):H s.heap.objs.size=none:=I.hok.fresh (Nat.le_refl _)
theorem Inv.lstM (I:Inv X pins σ H s) (hH:H l=some (.lst xs)):xs.length<=sizeLine/\∃ (its:List Value) (n:Nat),Vals xs its/\xs.length=its.length/\s.heap.get? l=some { cls:=.type "list",data:=.seq its.toArray n }:=by
 obtain ⟨z,its,n,r,e⟩:=I.hok l _ hH
 exact ⟨z,its,n,r,r.length,e⟩
theorem notLongL {n:Nat} (h:n<=sizeLine):Builtin.List.listTooLong n=false:=by
 unfold Builtin.List.listTooLong
 exact decide_eq_false (by omega)
end
section
variable {X:Cx}
def rAppend:V->List V->Hp->VK->Prop:=fun x vs H Q=>∃ l xs y,x=.ref l/\vs=[y]/\H l=some (.lst xs)/\xs.length < sizeLine/\Q .non (upd H l (.lst (xs++[y])))
theorem mt_append:MtM X "list.append" rAppend:=by
 intro pins s σ H x vs v us Q I rx rv h
 obtain ⟨l,xs,y,rfl,rfl,hH,hz,q⟩:=h
 cases rx
 obtain ⟨u,rfl,ru⟩:=rv.one
 obtain ⟨z,its,n,r,hl,e⟩:=I.lstM hH
 refine call_meets F.slot_list_append ⟨_,e,rfl⟩ F.entry_list_append (F.args_list_append_2 _ _) (PySem.list_append l its.toArray n u (by rw [List.size_toArray];omega)) ⟨e,?_⟩
 refine ⟨.non,_,I.lset (its':=its++[u]) hH e (by simp) (r.append (.cons ru .nil)) ?_,rfl,q⟩
 rw [List.length_append,List.length_singleton]
 omega
def rExtend:V->List V->Hp->VK->Prop:=fun x vs H Q=>∃ l b xs zs,x=.ref l/\vs=[.ref b]/\H l=some (.lst xs)/\H b=some (.lst zs)/\xs.length+zs.length<=sizeLine/\Q .non (upd H l (.lst (xs++zs)))
theorem mt_extend:MtM X "list.extend" rExtend:=by
 intro pins s σ H x vs v us Q I rx rv h
 obtain ⟨l,b,xs,zs,rfl,rfl,hH,hB,hz,q⟩:=h
 cases rx
 obtain ⟨u,rfl,ru⟩:=rv.one
 cases ru
 obtain ⟨z,its,n,r,hl,e⟩:=I.lstM hH
 obtain ⟨z2,its2,n2,r2,hl2,e2⟩:=I.lstM hB
 have hsz:its.toArray.size+its2.toArray.size<=sizeLine:=by rw [List.size_toArray,List.size_toArray];omega
 have hlong:¬ (!its.toArray.isEmpty && Builtin.List.listTooLong (its.toArray.size+its2.toArray.size))=true:=by
  rw [notLongL hsz,Bool.and_false]
  exact Bool.false_ne_true
 refine call_meets F.slot_list_extend ⟨_,e,rfl⟩ F.entry_list_extend (F.args_list_extend_2 _ _)
  (AutoSeq1.list_extend_list_list_0 l its.toArray n b its2.toArray n2 hlong (by rw [List.size_toArray];omega) (by omega)) ⟨e,e2,?_⟩
 refine ⟨.non,_,I.lset (its':=its++its2) hH e (by simp) (r.append r2) ?_,rfl,q⟩
 rw [List.length_append]
 omega
def rCat:R2:=fun x y H Q=>∃ l b xs zs,x=.ref l/\y=.ref b/\H l=some (.lst xs)/\H b=some (.lst zs)/\xs.length+zs.length<=sizeLine/\∀ p,H p=none->Q (.ref p) (upd H p (.lst (xs++zs)))
theorem op_cat:OpR X (binaryOp .Add) rCat:=by
 intro pins s σ H x y v u Q I rx ry h
 obtain ⟨l,b,xs,zs,rfl,rfl,hH,hB,hz,q⟩:=h
 cases rx
 cases ry
 obtain ⟨z,its,n,r,hl,e⟩:=I.lstM hH
 obtain ⟨z2,its2,n2,r2,hl2,e2⟩:=I.lstM hB
 refine PySem.P.add_list e e2 ?_ (by rw [List.size_toArray,List.size_toArray];omega)
 have ea:its.toArray++its2.toArray=(its++its2).toArray:=by simp
 rw [ea]
 exact ⟨.ref _,_,I.lnew (t':=s.toks) (r.append r2) (by rw [List.length_append];omega),rfl,q _ I.fresh⟩
end
section
variable {prog:Program} {w:World} {A:Around} {E:Value->Shared->Prop} {s:Shared}
set_option maxRecDepth 100000 in
end
section
variable {X:Cx}
end
end L2
namespace Att
open PySem PySem.W PySem.Calls PyProof.Rows
theorem ints_of_wellAll {P:Params} {h:Heap}:∀ (ns:List Int) (vs:List Value),WellAll P h vs (ns.map WData.int)->IntsAre vs ns:=by
 intro ns
 induction ns with
 | nil=>
  intro vs w
  rw [List.map_nil] at w
  cases w
  exact .nil
 | cons n ns ih=>
  intro vs w
  rw [List.map_cons] at w
  cases w with
  | cons a b=>
   cases a
   exact .cons _ _ (ih _ b)
theorem script_of {l:OpenLaw} {n:Nat} (hn:l.most=some n) {P:Params} {h:Heap} {args:List WData} {vals:List Value}
  (hpre:l.row.toRowW.claim.pre args=true) (hwl:WellAll P h vals args) :
  ∃ a vs ns,vals=[Value.ref a]/\args=[WData.list (ns.map WData.int)]/\h.get? a=some { cls:=.type "list",data:=.seq vs.toArray }/\IntsAre vs ns/\ns.length<=n:=by
 have hsh:WShape.hasAll [] args [.list .int]=true:=(pre_splitW hpre).1
 have hc:l.pre.holds [] { args:=args }=true:=(pre_splitW hpre).2
 obtain ⟨d,r,rfl,h1,h2⟩:=hasAllW_cons hsh
 obtain rfl:=hasAllW_nil h2
 obtain ⟨xs,rfl,h3⟩:=hasW_list h1
 obtain ⟨ns,rfl⟩:=items_int h3
 have hlen:ns.length<=n:=by
  unfold OpenLaw.pre at hc
  have h4:(WTm.not (.lt (.lit (.int (n:Int))) (.len (.arg 0)))).holds [] { args:=[.list (ns.map .int)] }=true:=by
   have h4:=(holds_andW hc).1
   rw [hn] at h4
   exact h4
  have h5:=condW_of h4 (w_not (w_lt w_lit (w_len_list (w_arg rfl))))
  rw [List.length_map] at h5
  refine Nat.le_of_not_lt fun q=>?_
  have q':(n:Int) < ((ns.length:Nat):Int):=by omega
  first
   | (rw [decide_eq_true q'] at h5;exact absurd h5 (by decide))
   | (simp at h5;omega)
 cases hwl with
 | cons w1 w2=>
  cases w2
  cases w1 with
  | list ho hall=>exact ⟨_,_,ns,rfl,rfl,ho,ints_of_wellAll ns _ hall,hlen⟩
theorem post_true (l:OpenLaw) (args:List WData):l.row.toRowW.claim.post args (.bool true) args=true:=
 postW_of (r:=l.row.toRowW) (X:=(true == true))
  (show WShape.has [] (.bool true) .bool=true by first | rfl | decide | simp [WShape.has,WShape.arms,WShape.armsAll])
  (show (WTm.eq .res (.lit (.bool true))).value [] { args:=args,res:=some (.bool true),after:=args }=some (.bool (true == true)) from w_eq_bool (w_res rfl) w_lit) rfl
section
variable {prog:Program} {w:World} {A:Around} {E:Value->Shared->Prop} {s:Shared} {K:Frag}
end
end Att
namespace L2
open PySem PySem.Spec PyProof.Rows
theorem vals_ints:∀ {vs:List Value} {ns:List Int},IntsAre vs ns->Vals (ns.map V.int) vs
 | _,_,.nil=>.nil
 | _,_,.cons n t h=>.cons ⟨t,rfl⟩ (vals_ints h)
def Only (H:Hp):Prop:=∀ b,H b=none\/∃ o xs,H b=some (.frz o (.lst xs))
theorem law_call {P:Program} {w:World} {K:PySem.W.Frag} {mg mb:Str->Option Value} {CX:CXT} {k:Nat} {fa a:Addr} {fd:FuncData} {x:Str} {sp:Sp} {s₁:Shared} {vs:List Value} {ns:List Int}
  (KX:K.In s₁.heap) (hns:s₁.heap.Ns mainGlobals mg) (hb:s₁.heap.Ns builtinsNs mb) (hbb:∀ x:Str,x ≠ "__name__"->mb x=bootBuiltins x) (hlim:s₁.heap.NoLimit) (hg:s₁.gens=#[])
  (ha:s₁.heap.get? a=some { cls:=.type "list",data:=.seq vs.toArray }) (hi:IntsAre vs ns) (hl:ns.length<=sizeLine) (hr:Room k callerA)
  (F:∀ base:Heap,K.In base->base.Ns mainGlobals mg->FnOk P w K mg base CX k fa fd [x] sp) (hbind:∀ (s:Shared) (u:Value),BindsTo s fd ⟨[u],[]⟩ [(x,u)])
  (hsp:∀ H:Hp,Only H->SqL K H a (ns.map V.int)->sp [.ref a] H (fun v _=>v=.bl true) fun _ _ _=>False)
  (hCX:∀ H e s',CX [] H s₁ (fun _ _ _=>False) e s'->False) :
  codeAny (model P w) callerA (.call (.ref fa) ⟨[.ref a],[]⟩) (fun r s'=>r=.ok (.ret (.bool true))/\OldK s₁.heap s'.heap/\s'.os=s₁.os/\AllBare s'.gens) s₁:=by
 have rv:=vals_ints hi
 have lenV:=hi.length
 -- from an abstract heap in which nothing but the script may be tracked
 have core:∀ H:Hp,Only H->SqL K H a (ns.map V.int)->HOk P w H s₁.heap->(∀ b,H b ≠ none->b=a)->(H a ≠ none->K.lookup a=none) →
   codeAny (model P w) callerA (.call (.ref fa) ⟨[.ref a],[]⟩) (fun r s'=>r=.ok (.ret (.bool true))/\OldK s₁.heap s'.heap/\s'.os=s₁.os/\AllBare s'.gens) s₁:=by
  intro H hO hS hok hA hK
  have base_of:∀ {b:Addr} {o:Obj},s₁.heap.get? b=some o->H b=none->(hidT s₁.heap H).get? b=some o:=fun e n=>hidT_get e n
  have noA:∀ {b:Addr} {o:Obj} {es:Array DictEntry} {ep:Nat},s₁.heap.get? b=some o->o.data=.dict es ep->H b=none:=fun {b o es ep} e d=>by
   cases q:H b with
   | none=>rfl
   | some u=>
    have e':b=a:=hA b (by rw [q];simp)
    subst e'
    rw [ha] at e;cases e
    have d':Data.seq vs.toArray _=Data.dict es ep:=d
    cases d'
  have nsK:∀ {b:Addr} {m:Str->Option Value},s₁.heap.Ns b m->(hidT s₁.heap H).Ns b m:=fun {b m} ⟨o,es,ep,e,d,r⟩=>⟨o,es,ep,base_of e (noA e d),d,r⟩
  have hKb:K.In (hidT s₁.heap H):=fun b o e=>base_of (KX b o e) (by
   cases q:H b with
   | none=>rfl
   | some u=>
    have e':b=a:=hA b (by rw [q];simp)
    subst e'
    rw [hK (by rw [q];simp)] at e;cases e)
  have hM:Mod K mg (hidT s₁.heap H):=⟨hKb,nsK hns,⟨mb,nsK hb,hbb⟩,let ⟨mc,h1,h2⟩:=hlim;⟨mc,nsK h1,h2⟩⟩
  have e0:Env0 P w K mg (hidT s₁.heap H) callerA [] s₁ H:=⟨rfl,hM,fun b o e=>of_hidT e,Nat.le_of_eq (hidT_size _ _),trivial,fun b hb=>absurd (show b ∈ ([]:List Addr) from hb) (by simp),hok,.of_eq hg⟩
  refine codeAny_mono ((F _ hKb (nsK hns)).run callerA [] s₁ H ⟨[.ref a],[]⟩ [.ref a] [.ref a] _ _ hr e0 (hbind s₁ (.ref a)) (.cons rfl .nil) (hsp H hO hS)) fun r s' h=>?_
  cases r with
  | error e=>exact (hCX H e s' h).elim
  | ok fl=>
   cases fl with
   | next=>exact False.elim h
   | brk=>exact False.elim h
   | cont=>exact False.elim h
   | ret u=>
    obtain ⟨v,H',os,bare,un,hok',r',q⟩:=h
    have q':v=.bl true:=q
    subst q'
    obtain rfl:u=Value.bool true:=r'
    refine ⟨rfl,OldK.of_keep fun b o e=>?_,os,bare⟩
    cases q:H b with
    | none=>exact un.keep b o e q (by intro z;exact absurd (show b ∈ ([]:List Addr) from z) (by simp)) (by simp)
    | some u=>
     rcases hO b with z | ⟨ob,xs,z⟩
     ·rw [q] at z;cases z
     ·have z2:=un.frzs b ob _ z
      obtain ⟨e1,_⟩:=hok b _ z
      obtain ⟨e2,_⟩:=hok' b _ z2
      rw [e] at e1;cases e1
      exact e2
 cases hk:K.lookup a with
 | some o=>
  -- the script is one of the module's own objects
  have e:=KX a o hk
  rw [ha] at e
  cases e
  refine core (fun _=>none) (fun _=>.inl rfl) (.inr ⟨_,vs.toArray,_,hk,rfl,rfl,rfl,by rw [List.size_toArray,lenV];exact hl,by simpa using rv⟩) (fun b u z=>by have z':(none:Option HO)=some u:=z;cases z') (fun b z=>absurd rfl z) fun z=>absurd rfl z
 | none=>
  refine core (fun b=>if b=a then some (.frz { cls:=.type "list",data:=.seq vs.toArray } (.lst (ns.map V.int))) else none) (fun b=>?_) (.inl (.inr ⟨{ cls:=.type "list",data:=.seq vs.toArray },if_pos rfl⟩)) (fun b u z=>?_) (fun b z=>?_) fun _=>hk
  ·by_cases hb:b=a
   ·exact .inr ⟨_,_,if_pos hb⟩
   ·exact .inl (if_neg hb)
  ·by_cases hb:b=a
   ·have z':=(if_pos hb).symm.trans z
    cases z'
    subst hb
    exact ⟨ha,by rw [List.length_map];exact hl,vs,_,rv,ha⟩
   ·have z':=(if_neg hb).symm.trans z
    cases z'
  ·by_cases hb:b=a
   ·exact hb
   ·exact absurd (if_neg hb) z
end L2
namespace L2
open PySem PySem.Spec PyProof.Rows
end L2
/- THE LAST THEOREM (shape;LID,My.* are yours):
   My.Adr: a structure of the addresses that your layer names (classes,functions);My.Txt K t: a structure (Prop) of the equations over K;
   My.txt_mk:{K} {implicit addresses ..} (e1:nsIn K mainGlobals "law" = some (some (.ref f))) (e2:K.lookup f=some ⟨oc,od,.func (fnOf "law" "law" params body scope dV kV doc pm an cdv ct),sl⟩) (e3:codeIn K cdv "law" = true) ..:∃ t,My.Txt K t
set_option maxRecDepth 100000 in
set_option maxHeartbeats 0 in
theorem PySem.Challenge.cw_LID_holds : PySem.Challenge.rw_LID.Holds := by
 w_on;o_law;k_head;(case hw=>w_witness2)
 k_fill
 refine L2.walk_of (l:=PySem.Challenge.rw_LID) (n:=63) (k:=40) (x := "script") (CX:=fun w=>..) (sp:=fun _=>My.sp_law) rfl (by decide) rfl ⟨rfl,by decide,by decide⟩ (fun w h Y=>PySem.W.kIn_of Y) ?F ?S ?C
 case F=>
  intro w mg fa h KX G hmg
  have T:∃ t,My.Txt (L2.KOf KX) t:=by
   dsimp only [L2.KOf]                          -- K must stand as «<heap const> w.params» for k_is
   refine' My.txt_mk ?e1 ?e2 ?e3 ..
   (case e1=>PySem.W.k_is)                    -- in the order: a name -> its address -> its object -> its parts
   (case e2=>PySem.W.k_is)
   ..
  obtain ⟨t,T⟩:=T
  have e0:=hmg.symm.trans (PySem.W.mg_of KX G T.law)
  cases e0                                       -- fa is the law's own address
  exact ⟨_,fun s u=>.of_eq rfl,fun base kb nb=>My.law_fn T kb nb⟩     -- if «.of_eq rfl» comes too early: refine' ⟨_,?b,fun base kb nb=>My.law_fn T kb nb⟩;exact fun s u=>.of_eq rfl
 case S=>exact fun w H a ns hl hO hS=>..
 case C=>exact ..
(the tactic k_is has no namespace: write k_is) -/
namespace L2
open PySem PySem.Spec PyProof.Rows
abbrev CX0:CXT:=fun _ _ _ _ _ _=>False
abbrev E0:XK:=fun _ _ _=>False
theorem pass0 {X:Cx}:Passes CX0 X E0:=fun _ _ _ _ _ _ _ h=>h.elim
structure Fun (K:PySem.W.Frag) (x qual:Str) (st:Stmt) (f:Addr) (fd:FuncData):Prop where
 ex:∃ (oc:Value) (od:Option Addr) (kV doc pm:Value) (an:Option Addr) (cdv ct:Value) (osl:Array (Option Value)),
  fd=PySem.W.fnOf x qual (defArgs st) (defBody st) (defScope st) .none kV doc pm an cdv ct/\K.lookup f=some ⟨oc,od,.func fd,osl⟩/\PySem.W.codeIn K cdv qual=true
 kp:PySem.W.keepIn K (.ref f)=true
section
variable {P:Program} {w:World} {K:PySem.W.Frag} {mg:Str->Option Value} {base:Heap}
theorem Fun.ok {x qual:Str} {st:Stmt} {f:Addr} {fd:FuncData} {N ps:List Str} {k:Nat} {sp:Sp} (F:Fun K x qual st f fd) (S:FnScope N ps (defScope st)) (len:∀ vs H Q E,sp vs H Q E->vs.length=ps.length)
  (hbody:∀ (cdv:Value) (A:Around) (outer:List Env) (s:Shared) (H:Hp) (vs:List V) (Q:VK) (E:XK),Room k (A.deeper (envOfC qual (defScope st) s.heap.objs.size f cdv))->sp vs H Q E →
   ∃ t,PSs (cxOf CX0 P w K mg base N qual (defScope st) f cdv A outer s H E).nox (defBody st) t/\t { nx:=fun _ H'=>Q .non H',rt:=Q } (start N vs) H):FnOk P w K mg base CX0 (k+1) f fd ps sp:=by
 obtain ⟨oc,od,kV,doc,pm,an,cdv,ct,osl,rfl,lk,hcd⟩:=F.ex
 refine fn_of lk hcd S len fun A outer s H vs Q E hr hsp=>?_
 obtain ⟨t,h,q⟩:=hbody cdv A outer s H vs Q E hr hsp
 exact ⟨t,h.nox,q⟩
theorem Fun.binds {x qual:Str} {st:Stmt} {f:Addr} {fd:FuncData} {ps:List Str} (F:Fun K x qual st f fd)
  (h:∀ (kV doc pm:Value) (an:Option Addr) (cdv ct:Value) (us:List Value),us.length=ps.length->bindArgs (PySem.W.fnOf x qual (defArgs st) (defBody st) (defScope st) .none kV doc pm an cdv ct) ⟨us,[]⟩=pure (ps.zip us)):Binds K fd ps []:=by
 obtain ⟨oc,od,kV,doc,pm,an,cdv,ct,osl,rfl,lk,hcd⟩:=F.ex
 exact .all (h kV doc pm an cdv ct)
theorem fun_mk {x qual:Str} {st:Stmt} {f:Addr} {oc:Value} {od an:Option Addr} {osl:Array (Option Value)} {kV doc pm cdv ct:Value} (l:K.lookup f=some ⟨oc,od,.func (PySem.W.fnOf x qual (defArgs st) (defBody st) (defScope st) .none kV doc pm an cdv ct),osl⟩)
  (c:PySem.W.codeIn K cdv qual=true) (k:PySem.W.keepIn K (.ref f)=true):Fun K x qual st f (PySem.W.fnOf x qual (defArgs st) (defBody st) (defScope st) .none kV doc pm an cdv ct):=⟨⟨oc,od,kV,doc,pm,an,cdv,ct,osl,rfl,l,c⟩,k⟩
end
section
variable {X:Cx}
theorem pv (i:Nat) {x:Str} {pos:Pos} (hN:X.N[i]?=some x:=by rfl) (hv:Vis X.env.scope x:=by first | exact Or.inl rfl | exact Or.inr (Or.inl rfl) | exact Or.inr (Or.inr rfl)) (hd:(x == ("__debug__" : Str))=false:=by decide)
  (hcd:(x == ("__classdict__" : Str))=false:=by decide):PE X (.Name x pos) (tVar i):=pe_var hN hv hd hcd
end
theorem iteF {A B:Prop} (h:B):if false=true then A else B:=by
 rw [if_neg Bool.false_ne_true]
 exact h
theorem iteT {A B:Prop} (h:A):if true=true then A else B:=by
 rw [if_pos rfl]
 exact h
theorem ite2 {c A B:Prop} [Decidable c] (h1:c->A) (h2:¬ c->B):if c then A else B:=by
 by_cases h:c
 ·rw [if_pos h]
  exact h1 h
 ·rw [if_neg h]
  exact h2 h
theorem iteNS {c A B:Prop} [Decidable c] (hc:c) (h:B):if (!decide c)=true then A else B:=by
 rw [decide_eq_true hc]
 exact iteF h
def Same (H H':Hp):Prop:=∀ b o,H b=some o->H' b=some o
theorem Same.refl (H:Hp):Same H H:=fun _ _ h=>h
theorem Same.trans {H H1 H2:Hp} (a:Same H H1) (b:Same H1 H2):Same H H2:=fun c o h=>b c o (a c o h)
theorem Same.free {H H':Hp} (e:Same H H') {l:Addr} (h:H' l=Option.none):H l=Option.none:=by
 cases q:H l with
 | none=>rfl
 | some o=>
  rw [e l o q] at h
  cases h
theorem Same.seq {K:PySem.W.Frag} {H H':Hp} {a:Addr} {xs:List V} (e:Same H H') (h:SqL K H a xs):SqL K H' a xs:=by
 rcases h with (h | ⟨o,h⟩) | h
 ·exact .inl (.inl (e _ _ h))
 ·exact .inl (.inr ⟨o,e _ _ h⟩)
 ·exact .inr h
end L2
set_option maxHeartbeats 4000000
namespace L3
open PySem PySem.Spec PyProof.Rows L2
theorem same_upd {H:Hp} {p:Addr} {o:HO} (h:H p=none):Same H (upd H p o):=fun b u e=>by
 rw [upd_ne (ne_of_none e h)];exact e
theorem same_to {H H':Hp} {p:Addr} {o:HO} (s:Same H H') (h:H p=none):Same H (upd H' p o):=fun b u e=>by
 rw [upd_ne (ne_of_none e h)];exact s b u e
def newO:HO->Prop
 | .lst _=>True
 | .tup _=>True
 | _=>False
def Rst (H H':Hp) (P:Hp->Prop):Prop:=∃ Hr,Same H Hr/\Same Hr H'/\(∀ a o,Hr a=some o->H a=some o\/newO o)/\P Hr
theorem Rst.same {H H':Hp} {P:Hp->Prop} (s:Same H H') (p:P H):Rst H H' P:=⟨H,Same.refl H,s,fun _ _ e=>.inl e,p⟩
theorem Rst.one {H H':Hp} {P:Hp->Prop} {p:Addr} {o:HO} (s:Same H H') (n:H p=none) (e:H' p=some o) (no:newO o) (q:P (upd H p o)):Rst H H' P:=
 ⟨upd H p o,same_upd n,fun b u z=>by
  by_cases hb:b=p
  ·subst hb;rw [upd_same] at z;cases z;exact e
  ·rw [upd_ne hb] at z;exact s b u z,fun b u z=>by
  by_cases hb:b=p
  ·subst hb;rw [upd_same] at z;cases z;exact .inr no
  ·rw [upd_ne hb] at z;exact .inl z,q⟩
theorem Rst.more {H H1 H':Hp} {P:Hp->Prop} (s:Same H H1) (n:∀ a o,H1 a=some o->H a=some o\/newO o) (r:Rst H1 H' P):Rst H H' P:=by
 obtain ⟨Hr,s1,s2,hn,q⟩:=r
 exact ⟨Hr,s.trans s1,s2,fun a o e=>by
  rcases hn a o e with z | z
  ·exact n a o z
  ·exact .inr z,q⟩
section
variable {P:Program} {w:World} {H Hr H':Hp} {h h':Heap}
theorem objOk_rst {a:Addr} {o:HO} (s1:Same H Hr) (x0:ObjOk P w H h a o) (x:ObjOk P w H' h' a o):ObjOk P w Hr h' a o:=by
 induction o with
 | ins C dx fs=>exact ⟨s1 _ _ x0.1,x.2⟩
 | frz ob u ih=>exact ⟨x.1,ih x0.2 x.2⟩
 | lst xs=>exact x
 | tup xs=>exact x
 | dK kvs=>exact x
 | dT kvs=>exact x
 | set S n=>exact x
 | own y=>exact x
 | xd fs=>exact x
 | rng lo hi=>exact x
 | tbl ps=>exact x
 | met f y=>exact x
 | ext φ=>exact x
theorem hok_rst (e0:HOk P w H h) (k:HOk P w H' h') (s1:Same H Hr) (s2:Same Hr H') (hn:∀ a o,Hr a=some o->H a=some o\/newO o):HOk P w Hr h':=fun a o e=>by
 have x:=k a o (s2 a o e)
 rcases hn a o e with z | z
 ·exact objOk_rst s1 (e0 a o z) x
 ·cases o with
  | lst xs=>exact x
  | tup xs=>exact x
  | _=>exact False.elim z
theorem un_rst {fs ex:List Addr} (u:Un fs ex H H' h h') (s1:Same H Hr) (s2:Same Hr H'):Un fs ex H Hr h h' where
 keep:=u.keep
 slot:=u.slot
 free:=fun b o e n hx=>s2.free (u.free b o e n hx)
 there:=u.there
 tups:=fun b xs e=>s1 b _ e
 frzs:=fun b o x e=>s1 b _ e
 tbls:=fun b ps e=>⟨#[],by rw [s1 b _ e];simp⟩
end
section
variable {P:Program} {w:World} {K:PySem.W.Frag} {mg:Str->Option Value} {base:Heap} {CX:CXT} {k:Nat} {f:Addr} {fd:FuncData} {ps:List Str} {sp:Sp}
def SpR (sp:Sp):Sp:=fun vs H Q2 E=>∃ Q:VK,(∀ v H',Rst H H' (Q v)->Q2 v H')/\sp vs H Q E
theorem FnOk.rst (F:FnOk P w K mg base CX k f fd ps (SpR sp)):FnOk P w K mg base CX k f fd ps sp:=
 ⟨fun vs H Q E h=>F.len vs H (fun v H'=>Rst H H' (Q v)) E ⟨Q,fun _ _ z=>z,h⟩,fun A outer s H args us vs Q E hr he hb hv hs=>
  codeAny_mono (F.run A outer s H args us vs (fun v H'=>Rst H H' (Q v)) E hr he hb hv ⟨Q,fun _ _ z=>z,hs⟩) fun r s' hq=>by
   cases r with
   | error e=>exact hq
   | ok fl=>
    cases fl with
    | ret u=>
     obtain ⟨v,H',e1,e2,e3,e4,e5,Hr,s1,s2,hn,q⟩:=hq
     exact ⟨v,Hr,e1,e2,un_rst e3 s1 s2,hok_rst he.hok e4 s1 s2 hn,e5,q⟩
    | next=>exact False.elim hq
    | brk=>exact False.elim hq
    | cont=>exact False.elim hq⟩
theorem Fun.okR {x qual:Str} {st:Stmt} {f:Addr} {fd:FuncData} {N ps:List Str} {k:Nat} {sp:Sp} (F:Fun K x qual st f fd) (S:FnScope N ps (defScope st)) (len:∀ vs H Q E,sp vs H Q E->vs.length=ps.length)
  (hbody:∀ (cdv:Value) (A:Around) (outer:List Env) (s:Shared) (H:Hp) (vs:List V) (Q Q2:VK) (E:XK),Room k (A.deeper (envOfC qual (defScope st) s.heap.objs.size f cdv))->sp vs H Q E->(∀ v H',Rst H H' (Q v)->Q2 v H') →
   ∃ t,PSs (cxOf CX0 P w K mg base N qual (defScope st) f cdv A outer s H E).nox (defBody st) t/\t { nx:=fun _ H'=>Q2 .non H',rt:=Q2 } (start N vs) H):FnOk P w K mg base CX0 (k+1) f fd ps sp:=
 FnOk.rst (F.ok S (fun vs H Q2 E ⟨Q,_,h⟩=>len vs H Q E h) fun cdv A outer s H vs Q2 E hr ⟨Q,hq,h⟩=>hbody cdv A outer s H vs Q Q2 E hr h hq)
end
end L3
namespace L3
open PySem PySem.Spec PyProof.Rows L2
abbrev NE:Value->Shared->Prop:=fun _ _=>False
def PTs (X:Cx) (cs:List Expr) (t:TT):Prop:=
 ∀ (pins:List (Addr × Obj)) (s:Shared) (σ:L2.St) (H:Hp) (Q:Bool->Hp->Prop),Inv X pins σ H s->t σ H Q →
  wpAny (model X.prog X.w) X.A (forIn cs true fun c r=>if r=true then do let ok <-isTrue c X.env (eval c X.env);pure (ForInStep.yield ok) else pure (ForInStep.yield r)) (TP X pins σ Q) X.xe s
def tYes:TT:=fun _ H Q=>Q true H
theorem pts_nil {X:Cx}:PTs X [] tYes:=fun _ _ _ H _ I h=>wpAny_tests_nil ⟨H,I,h⟩
theorem pts_one {X:Cx} {c:Expr} {t:TT} (h:PT X c t):PTs X [c] t:=fun pins s σ H Q I q=>wpAny_tests_one (h pins s σ H Q I q)
section
variable {prog:Program} {w:World} {A:Around} {R:Result->Shared->Prop} {s:Shared}
theorem compLoop_any {elt target iter:Expr} {ifs:List Expr} {scope:Scope} {pos:Pos} {it acc:Value} {env:Env} (I:Nat->Shared->Prop)
  (turn:∀ n s,I n s->wpAny (model prog w) A (pyNext it) (fun r s₁=>match r with
   | none=>R (.ok .next) s₁
   | some v=>wpAny (model prog w) A (letOwnedTupleGo target it v) (fun _ s₀=>wpAny (model prog w) A (assign target env v) (fun _ s₂=>
     wpAny (model prog w) A (forIn ifs true fun c r=>if r=true then do let ok <-isTrue c env (eval c env);pure (ForInStep.yield ok) else pure (ForInStep.yield r)) (fun ok s₃=>
      if ok=true then wpAny (model prog w) A (eval elt env) (fun x s₄=>
       wpAny (model prog w) A (call (.builtin "list.append") [acc,x]) (fun _ s₅=>∃ m,m < n/\I m s₅) NE s₄) NE s₃
      else ∃ m,m < n/\I m s₃) NE s₂) NE s₀) NE s₁) NE s)
  (n:Nat) (h:I n s) :
  codeAny (model prog w) A (.compLoop (.ListComp elt [⟨target,iter,ifs,0⟩] scope pos) 0 it acc env) R s:=by
 refine codeAny_loop rfl I (fun n s hI=>?_) n h
 show wpAny _ A ((compTurn (.ListComp elt [⟨target,iter,ifs,0⟩] scope pos) 0 it acc env).onRaise (fun x=>do noteFrame x env;theTreesLotGoes x)) _ _ s
 refine wpAny_noted (wpAny_mono (E:=NE) ?_ (fun _ _ q=>q) fun _ _ f=>f.elim)
 rw [compTurn_list]
 refine wpAny_bind (wpAny_standAt (wpAny_bind (wpAny_mono (turn n s hI) (fun r s₁ h₁=>?_) fun _ _ h'=>h')))
 cases r with
 | none=>exact wpAny_pure h₁
 | some v=>
  refine wpAny_bind (wpAny_mono h₁ (fun _ s₀ h₀=>?_) fun _ _ h'=>h')
  refine wpAny_bind (wpAny_mono h₀ (fun _ s₂ h₂=>wpAny_bind (wpAny_mono h₂ (fun ok s₃ h₃=>?_) fun _ _ h'=>h')) fun _ _ h'=>h')
  cases ok with
  | false=>exact wpAny_pure ⟨rfl,h₃⟩
  | true=>
   exact wpAny_bind (wpAny_bind (wpAny_mono h₃ (fun x s₄ h₄=>wpAny_bind (wpAny_mono h₄ (fun _ s₅ h₅=>wpAny_pure (wpAny_pure ⟨rfl,h₅⟩)) fun _ _ h'=>h')) fun _ _ h'=>h'))
end
theorem closure_go {env:Env}:∀ (names:List (Str × NameKind)) (cs:List (Str × Addr)),(∀ y ∈ names,y.2=.free->∃ c,env.cells.lookup y.1=some c)->(∀ x c,cs.lookup x=some c->env.cells.lookup x=some c) →
  ∃ cl,(forIn names cs (fun (y:Str × NameKind) r=>if (y.2 == .free)=true then do let a <-cellOf env y.1;pure (ForInStep.yield ((y.1,a) :: r)) else pure (ForInStep.yield r)):Sem (List (Str × Addr)))=pure cl ∧
   (∀ x c,cl.lookup x=some c->env.cells.lookup x=some c)/\(∀ x,(∃ c,cs.lookup x=some c)->∃ c,cl.lookup x=some c)/\(∀ y ∈ names,y.2=.free->∃ c,cl.lookup y.1=some c)
 | [],cs,_,h=>⟨cs,rfl,h,fun _ z=>z,fun _ z=>nomatch z⟩
 | y :: r,cs,hn,h=>by
  by_cases hy:y.2=.free
  ·obtain ⟨c,hc⟩:=hn y List.mem_cons_self hy
   have hc':cellOf env y.1=pure c:=by unfold cellOf;rw [hc]
   have h2:∀ x d,((y.1,c) :: cs).lookup x=some d->env.cells.lookup x=some d:=fun x d e=>by
    rw [List.lookup_cons] at e
    by_cases hx:x=y.1
    ·subst hx
     rw [show (y.1 == y.1)=true from beq_self_eq_true _] at e
     cases e
     exact hc
    ·rw [show (x == y.1)=false from beq_eq_false_iff_ne.mpr hx] at e
     exact h x d e
   obtain ⟨cl,e1,e2,e3,e4⟩:=closure_go r ((y.1,c) :: cs) (fun z hz=>hn z (List.mem_cons_of_mem _ hz)) h2
   refine ⟨cl,?_,e2,fun x hx=>e3 x ?_,fun z hz hf=>?_⟩
   ·rw [List.forIn_cons,hy,if_pos (by decide),hc']
    exact e1
   ·obtain ⟨d,hd⟩:=hx
    rw [List.lookup_cons]
    by_cases hx:x=y.1
    ·exact ⟨c,by rw [show (x == y.1)=true from beq_iff_eq.mpr hx]⟩
    ·exact ⟨d,by rw [show (x == y.1)=false from beq_eq_false_iff_ne.mpr hx];exact hd⟩
   ·rcases List.mem_cons.mp hz with rfl | hz
    ·exact e3 z.1 ⟨c,by rw [List.lookup_cons,show (z.1 == z.1)=true from beq_self_eq_true _]⟩
    ·exact e4 z hz hf
  ·obtain ⟨cl,e1,e2,e3,e4⟩:=closure_go r cs (fun z hz=>hn z (List.mem_cons_of_mem _ hz)) h
   refine ⟨cl,?_,e2,e3,fun z hz hf=>?_⟩
   ·rw [List.forIn_cons,if_neg (by intro q;exact hy (beq_iff_eq.mp q))]
    exact e1
   ·rcases List.mem_cons.mp hz with rfl | hz
    ·exact absurd hf hy
    ·exact e4 z hz hf
theorem closure_ok {scope:Scope} {env:Env} (hn:∀ y ∈ scope.names,y.2=.free->∃ c,env.cells.lookup y.1=some c) :
  ∃ cl,closureFor scope env=pure cl/\(∀ x c,cl.lookup x=some c->env.cells.lookup x=some c)/\(∀ y ∈ scope.names,y.2=.free->∃ c,cl.lookup y.1=some c):=by
 obtain ⟨cl,e1,e2,_,e4⟩:=closure_go (env:=env) scope.names [] hn (fun x c e=>by rw [List.lookup_nil] at e;cases e)
 refine ⟨cl,?_,e2,e4⟩
 unfold closureFor
 exact (congrArg (· >>= pure) e1)
theorem relabel_back {env:Env} {x:Str}:∀ {names:List (Str × NameKind)},(∀ y ∈ names,y.2 ≠ .cell) →
  ((names.map fun (n,k)=>if (k == NameKind.free && env.scope.kind == .function && env.kindOf n == some .cell) then (n,NameKind.cell) else (n,k)).lookup x=some .cell ∨
   (names.map fun (n,k)=>if (k == NameKind.free && env.scope.kind == .function && env.kindOf n == some .cell) then (n,NameKind.cell) else (n,k)).lookup x=some .free)->names.lookup x=some .free
 | [],_,h=>by rcases h with h | h <;> (rw [List.map_nil,List.lookup_nil] at h;cases h)
 | (n,k) :: r,hc,h=>by
  have ih:=relabel_back (env:=env) (x:=x) (names:=r) fun y hy=>hc y (List.mem_cons_of_mem _ hy)
  have hk:k ≠ .cell:=hc (n,k) List.mem_cons_self
  rw [List.map_cons] at h
  rw [List.lookup_cons]
  cases hx:x == n with
  | true=>
   dsimp only
   by_cases hq:(k == NameKind.free && env.scope.kind == .function && env.kindOf n == some .cell)=true
   ·rw [Bool.and_eq_true,Bool.and_eq_true] at hq
    rw [beq_iff_eq.mp hq.1.1]
   ·dsimp only at h
    rw [if_neg hq] at h
    rw [List.lookup_cons,hx] at h
    dsimp only at h
    rcases h with h | h
    ·exact absurd (Option.some.inj h) hk
    ·exact h
  | false=>
   dsimp only
   refine ih ?_
   dsimp only at h
   by_cases hq:(k == NameKind.free && env.scope.kind == .function && env.kindOf n == some .cell)=true
   ·rw [if_pos hq,List.lookup_cons,hx] at h
    exact h
   ·rw [if_neg hq,List.lookup_cons,hx] at h
    exact h
theorem mem_lookup {x:Str} {k:NameKind} {l:List (Str × NameKind)} (h:l.lookup x=some k):(x,k) ∈ l:=PySem.mem_of_lookup h
def comp (X:Cx) (Nc:List Str) (scope:Scope) (cl:List (Str × Addr)) (C:Addr) (s:Shared) (H:Hp) (fp:List Addr):Cx:=
 { X with N:=Nc,s₀:=s,H₀:=H,env:=compEnvC scope cl C X.env,outer:=X.stack,stack:=X.stack,ex:=fp,fn:=fun _=>false,pn:=[],xe:=fun _ _=>False }
def MapOk (X:Cx) (scope:Scope):List Str->List (Option Nat)->Prop
 | [],[]=>True
 | _ :: N,none :: m=>MapOk X scope N m
 | x :: N,some i :: m=>(X.N[i]?=some x/\(X.env.scope.names.lookup x=some .cell\/X.env.scope.names.lookup x=some .free)/\scope.names.lookup x=some .free)/\MapOk X scope N m
 | _,_=>False
theorem MapOk.len {X:Cx} {scope:Scope}:∀ {N:List Str} {m:List (Option Nat)},MapOk X scope N m->m.length=N.length
 | [],[],_=>rfl
 | _ :: N,none :: m,h=>congrArg (·+1) (MapOk.len (N:=N) (m:=m) h)
 | _ :: N,some _ :: m,h=>congrArg (·+1) (MapOk.len (N:=N) (m:=m) h.2)
 | [],_ :: _,h=>h.elim
 | _ :: _,[],h=>h.elim
theorem MapOk.at {X:Cx} {scope:Scope} {x:Str} {i:Nat}:∀ {N:List Str} {m:List (Option Nat)} {j:Nat},MapOk X scope N m->m[j]?=some (some i)->N[j]?=some x →
  X.N[i]?=some x/\(X.env.scope.names.lookup x=some .cell\/X.env.scope.names.lookup x=some .free)/\scope.names.lookup x=some .free
 | [],[],j,_,h,_=>by simp at h
 | _ :: N,none :: m,0,_,h,_=>by simp at h
 | _ :: N,none :: m,j+1,k,h,e=>MapOk.at (N:=N) (m:=m) (j:=j) k (by simpa using h) (by simpa using e)
 | y :: N,some i' :: m,0,k,h,e=>by
  simp at h e
  subst h;subst e
  exact k.1
 | _ :: N,some _ :: m,j+1,k,h,e=>MapOk.at (N:=N) (m:=m) (j:=j) k.2 (by simpa using h) (by simpa using e)
 | [],_ :: _,_,h,_,_=>h.elim
 | _ :: _,[],_,h,_,_=>h.elim
def mapS (m:List (Option Nat)) (σ:L2.St):L2.St:=m.map fun o=>o.bind fun i=>(σ[i]?).bind id
structure CompOk (X:Cx) (scope:Scope) (Nc:List Str) (mp:List (Option Nat)):Prop where
 kind:scope.kind=.function
 noc:∀ y ∈ scope.names,y.2 ≠ .cell
 loc:∀ y ∈ scope.names,y.2=.local->scope.names.lookup y.1=some .local
 fre:∀ y ∈ scope.names,y.2=.free->X.env.kindOf y.1=some .cell\/X.env.kindOf y.1=some .free
 map:MapOk X scope Nc mp
section
variable {X:Cx} {pins:List (Addr × Obj)} {σ:L2.St} {H:Hp} {s:Shared} {scope:Scope} {Nc:List Str} {mp:List (Option Nat)} {cl:List (Str × Addr)} {C:Addr} {fp:List Addr}
theorem comp_ok (I:Inv X pins σ H s) (S:CompOk X scope Nc mp) (h1:∀ x c,cl.lookup x=some c->X.env.cells.lookup x=some c) (h2:∀ y ∈ scope.names,y.2=.free->∃ c,cl.lookup y.1=some c)
  (hC:s.heap.objs.size<=C) (hf:∀ b ∈ fp,FpOk X pins H b) (ho:∀ b ∈ fp,b < s.heap.objs.size):(comp X Nc scope cl C s H fp).Ok where
 mod:=I.ok.mod
 kind:=S.kind
 glob:=I.ok.glob
 blt:=I.ok.blt
 above:=hC
 inj:=fun x y c e e'=>I.ok.inj x y c (h1 x c e) (h1 y c e')
 has:=fun x hx=>by
  have q:scope.names.lookup x=some .free:=relabel_back (env:=X.env) S.noc hx
  exact h2 (x,.free) (mem_lookup q) rfl
 cab:=fun x c hx=>absurd (show false=true from hx) Bool.false_ne_true
 hd:=I.ok.hd
 frames:=I.ok.frames
 stk:=.inl rfl
 exf:=fun b hb=>⟨fun z=>absurd (Nat.lt_of_lt_of_le (ho b hb) hC) (by rw [z];exact Nat.lt_irrefl _),fun x c e=>(hf b hb).2.2.2.2.1 x c (h1 x c e)⟩
 bs:=I.bs
 bsz:=Nat.le_trans I.ok.bsz I.sz
 noex:=fun b o e hb=>by
  rcases (hf b hb).2.2.2.1 with z | z
  ·exact I.ok.noex b o e z
  ·exact absurd (Nat.lt_of_lt_of_le (Heap.lt_size e) (Nat.le_trans I.ok.bsz z)) (Nat.lt_irrefl _)
 exfs:=fun b hb z=>by
  rcases List.mem_cons.mp (I.stkSub b z) with e | e
  ·exact (hf b hb).2.1 e
  ·exact (hf b hb).2.2.1 e
 funs:=I.stack
 frf:=I.stkFree
theorem comp_inv {h':Heap} {tk:Nat} {D:Addr} {oD:Obj} (I:Inv X pins σ H s) (S:CompOk X scope Nc mp) (h1:∀ x c,cl.lookup x=some c->X.env.cells.lookup x=some c) (h2:∀ y ∈ scope.names,y.2=.free->∃ c,cl.lookup y.1=some c)
  (hC:s.heap.objs.size<=C) (hf:∀ b ∈ fp,FpOk X pins H b) (ho:∀ b ∈ fp,b < s.heap.objs.size) (kp:∀ b o,s.heap.get? b=some o->h'.get? b=some o) {m:Str->Option Value} (hn:h'.Ns C m)
  (hD:s.heap.objs.size<=D) (hDC:D ≠ C) (eD:h'.get? D=some oD) (dD:∀ v,oD.data ≠ .cell v):Inv (comp X Nc scope cl C s H fp) [(D,oD)] (mapS mp σ) H { s with heap:=h',toks:=tk } where
 ok:=comp_ok I S h1 h2 hC hf ho
 os:=rfl
 bare:=I.bare
 base:=Un.kept kp
 loc:=by
  refine ⟨m,hn,fun j x v e1 e2 _=>?_⟩
  have hj:(mapS mp σ)[j]?=(mp[j]?).map fun o=>o.bind fun i=>(σ[i]?).bind id:=by unfold mapS;rw [List.getElem?_map]
  rw [hj] at e2
  cases e3:mp[j]? with
  | none=>rw [e3] at e2;cases e2
  | some o=>
   rw [e3] at e2
   cases o with
   | none=>cases e2
   | some i=>
    obtain ⟨k1,k2,k3⟩:=S.map.at e3 e1
    have e4:(σ[i]?).bind id=some v:=Option.some.inj e2
    have e5:σ[i]?=some (some v):=by
     cases q:σ[i]? with
     | none=>rw [q] at e4;cases e4
     | some z=>rw [q] at e4;exact congrArg some e4
    obtain ⟨m0,_,hl⟩:=I.loc
    obtain ⟨u,r,l⟩:=hl i x v k1 e5 (.inr k2)
    refine ⟨u,r,.inr ⟨?_,?_⟩⟩
    ·show (relabel scope X.env).names.lookup x=some .cell\/(relabel scope X.env).names.lookup x=some .free
     have go:∀ {names:List (Str × NameKind)},names.lookup x=some .free →
       ((names.map fun (n,k)=>if (k == NameKind.free && X.env.scope.kind == .function && X.env.kindOf n == some .cell) then (n,NameKind.cell) else (n,k)).lookup x=some .cell ∨
        (names.map fun (n,k)=>if (k == NameKind.free && X.env.scope.kind == .function && X.env.kindOf n == some .cell) then (n,NameKind.cell) else (n,k)).lookup x=some .free):=by
      intro names
      induction names with
      | nil=>intro q;rw [List.lookup_nil] at q;cases q
      | cons y r ih=>
       obtain ⟨n,k⟩:=y
       intro q
       rw [List.lookup_cons] at q
       rw [List.map_cons]
       dsimp only
       cases hx:x == n with
       | true=>
        rw [hx] at q
        cases q
        by_cases hq:(NameKind.free == NameKind.free && X.env.scope.kind == .function && X.env.kindOf n == some .cell)=true
        ·rw [if_pos hq,List.lookup_cons,hx];exact .inl rfl
        ·rw [if_neg hq,List.lookup_cons,hx];exact .inr rfl
       | false=>
        rw [hx] at q
        by_cases hq:(k == NameKind.free && X.env.scope.kind == .function && X.env.kindOf n == some .cell)=true
        ·rw [if_pos hq,List.lookup_cons,hx];exact ih q
        ·rw [if_neg hq,List.lookup_cons,hx];exact ih q
     exact go k3
    ·obtain ⟨c,hc⟩:=h2 (x,.free) (mem_lookup k3) rfl
     refine ⟨c,hc,?_⟩
     rcases l with ⟨lk,_⟩ | ⟨_,c',hc',oc,hoc,hd⟩
     ·have lk':X.env.scope.names.lookup x=some .local:=lk
      rcases k2 with k2 | k2 <;> (rw [lk'] at k2;cases k2)
     ·rw [h1 x c hc] at hc';cases hc'
      exact ⟨oc,kp _ _ hoc,hd⟩
 cell:=fun x c e=>by
  obtain ⟨v,o,ho',hd⟩:=I.cell x c (h1 x c e)
  exact ⟨v,o,kp _ _ ho',hd⟩
 free:=I.hok.fresh hC
 freeC:=fun x c e=>I.freeC x c (h1 x c e)
 pin:=fun p hp=>by
  have e:p=(D,oD):=by
   have hp':p ∈ ([]:List (Addr × Obj))++[(D,oD)]:=hp
   simpa using hp'
  subst e
  refine ⟨eD,I.hok.fresh hD,hDC,fun z=>?_,dD⟩
  rcases List.mem_cons.mp (I.stkSub D z) with e | e
  ·exact absurd (Nat.lt_of_lt_of_le I.lt hD) (by rw [e];exact Nat.lt_irrefl _)
  ·exact I.nofs hD e
 hok:=I.hok.kept kp
 len:=by unfold mapS;rw [List.length_map];exact S.map.len
theorem comp_out {σ':L2.St} {H':Hp} {s':Shared} {h':Heap} {D:Addr} {acc:List V} {its:List Value} {n:Nat} (I:Inv X pins σ H s) (hC:s.heap.objs.size<=C) (hD:s.heap.objs.size<=D) (hDC:D ≠ C) (hf:∀ b ∈ fp,FpOk X pins H b)
  (J:Inv (comp X Nc scope cl C s H fp) [(D,{ cls:=.type "list",data:=.seq its.toArray n })] σ' H' s') (hs:Heap.SameBut C s'.heap h') (hv:Vals acc its) (hz:acc.length<=sizeLine) :
  Inv X pins σ (upd H' D (.lst acc)) { s' with heap:=h' }/\H' D=none:=by
 obtain ⟨eD,nD,_,_,_⟩:=J.pin (D,{ cls:=.type "list",data:=.seq its.toArray n }) (List.mem_append_right _ List.mem_cons_self)
 have nD':H' D=none:=nD
 have u:Un (frs X.stack) fp H H' s.heap s'.heap:=J.base
 have neC:∀ b o,s.heap.get? b=some o->b ≠ C:=fun b o e=>Nat.ne_of_lt (Nat.lt_of_lt_of_le (Heap.lt_size e) hC)
 have neD:∀ b o,s.heap.get? b=some o->b ≠ D:=fun b o e=>Nat.ne_of_lt (Nat.lt_of_lt_of_le (Heap.lt_size e) hD)
 refine ⟨?_,nD'⟩
 refine I.call' (ch:=fp) (s':={ s' with heap:=h' }) J.os ⟨fun b o e nb hb hx=>?_,fun b o e nb hb hx=>?_,fun b o e nb hx=>?_,fun b o e hx=>?_,fun b xs e=>?_,fun b o xs e=>?_,fun b ps e=>?_⟩ (fun b o e=>?_) J.bare fun b hb=>⟨(hf b hb).2.2.2.1,(hf b hb).2.1,(hf b hb).2.2.2.2.1,(hf b hb).2.2.2.2.2⟩
 ·exact (hs.2 b (neC b o e)).trans (u.keep b o e nb hb hx)
 ·obtain ⟨sl,q⟩:=u.slot b o e nb hb hx
  exact ⟨sl,(hs.2 b (neC b o e)).trans q⟩
 ·rw [upd_ne (neD b o e)];exact u.free b o e nb hx
 ·obtain ⟨o',q⟩:=u.there b o e hx
  exact ⟨o',(hs.2 b (neC b o e)).trans q⟩
 ·have q:=u.tups b xs e
  rw [upd_ne (ne_of_none q nD')];exact q
 ·have q:=u.frzs b o xs e
  rw [upd_ne (ne_of_none q nD')];exact q
 ·obtain ⟨more,q⟩:=u.tbls b ps e
  exact ⟨more,by rw [upd_ne (ne_of_none q nD')];exact q⟩
 ·have freeC':H' C=none:=J.free
  by_cases hb:b=D
  ·subst hb
   rw [upd_same] at e;cases e
   exact ⟨hz,its,n,hv,(hs.2 _ hDC).trans eD⟩
  ·rw [upd_ne hb] at e
   refine (J.hok b o e).stay (fun c v hc q=>(hs.2 c ?_).trans q) (fun c q=>by rw [upd_ne (ne_of_none q nD')];exact q) fun c xs q=>by rw [upd_ne (ne_of_none q nD')];exact q
   rcases hc with z | z
   ·rw [z];exact ne_of_none e freeC'
   ·exact ne_of_none z freeC'
end
def wComp (J:It) (g:TG) (tt:TT) (te:TE) (Q:VK) (σ:L2.St) (H:Hp):Prop:=
 ∃ W:Nat->Nat->L2.St->List V->Hp->Prop,(∃ m,W 0 m σ [] H)/\∀ i m σ acc H,W i m σ acc H →
  (J.stop i H/\acc.length<=sizeLine/\∀ D,H D=none->Q (.ref D) (upd H D (.lst acc))) ∨
  (J.go i H/\∀ x H',J.yld i H x H'->g x σ H' fun σ2 H2=>tt σ2 H2 fun b H3=>if b=true then te σ2 H3 fun v H4=>acc.length < sizeLine/\∃ m',m' < m/\W (i+1) m' σ2 (acc++[v]) H4 else ∃ m',m' < m/\W (i+1) m' σ2 acc H3)
def tComp (mp:List (Option Nat)) (wi:TI) (g:TG) (tt:TT) (te:TE):TE:=fun σ H Q=>wi σ H fun J H1=>wComp J g tt te Q (mapS mp σ) H1
section
variable {X:Cx} {scope:Scope} {Nc:List Str} {mp:List (Option Nat)} {tg iter elt:Expr} {ifs:List Expr} {pos:Pos} {wi:TI} {g:TG} {tt:TT} {te:TE}
theorem comp_block {pins:List (Addr × Obj)} {σ:L2.St} {H:Hp} {s2:Shared} {it:Addr} {fp:List Addr} {tn:Nat->Heap->Prop} {J:It} {cl:List (Str × Addr)} {RR:Value->Addr->Result->Shared->Prop} {Q:VK}
  (hc:X.calm=true) (S:CompOk X scope Nc mp)
  (hb:∀ cl C s H fp,PG (comp X Nc scope cl C s H fp) tg g/\PTs (comp X Nc scope cl C s H fp) ifs tt/\PE (comp X Nc scope cl C s H fp) elt te)
  (h1:∀ x c,cl.lookup x=some c->X.env.cells.lookup x=some c) (h2:∀ y ∈ scope.names,y.2=.free->∃ c,cl.lookup y.1=some c)
  (I:Inv X pins σ H s2) (T:Turn X.prog X.w X.K tg J fp it tn) (st:tn 0 s2.heap) (hf:∀ b ∈ fp,FpOk X pins H b) (hw:wComp J g tt te Q (mapS mp σ) H)
  (hR:∀ D C s' H',s2.heap.objs.size<=C->s2.heap.objs.size<=D->D ≠ C->(∃ m,s'.heap.Ns C m)->(∀ h',Heap.SameBut C s'.heap h'->Inv X pins σ H' { s' with heap:=h' })->H' C=none->Q (.ref D) H'->RR (.ref D) C (.ok .next) s') :
  wpAny (model X.prog X.w) X.A (newList []) (fun acc s₃=>wpAny (model X.prog X.w) X.A (newFunctionEnv scope X.env.globals cl [] X.env.qual none .none (some X.env)) (fun cenv s₄=>
   codeAny (model X.prog X.w) X.A (.compStart (.ListComp elt [⟨tg,iter,ifs,0⟩] scope pos) 0 (.ref it) acc { cenv with scope:=relabel scope X.env }) (RR acc cenv.locals) s₄) X.xe s₃) X.xe s2:=by
 obtain ⟨W,⟨m0,w0⟩,turn⟩:=hw
 refine wpAny_newObj_type (wpAny_newFunctionEnv S.noc (by intro y hy;simp at hy) (fun h₁ hns₁ hsb₁=>?_) S.kind)
 dsimp only at hns₁ hsb₁ ⊢
 generalize hH2:s2.heap.push { cls:=.type "list",dict:=none,data:=.seq ([]:List Value).toArray }=H2 at hns₁ hsb₁ ⊢
 have hC:H2.objs.size=s2.heap.objs.size+1:=by rw [<-hH2,Heap.size_push]
 have hDC:s2.heap.objs.size ≠ H2.objs.size:=by rw [hC];exact Nat.ne_of_lt (Nat.lt_succ_self _)
 have hCle:s2.heap.objs.size<=H2.objs.size:=by rw [hC];exact Nat.le_succ _
 have below:∀ b,b < s2.heap.objs.size->b ≠ H2.objs.size:=fun b hb=>by rw [hC];exact Nat.ne_of_lt (Nat.lt_succ_of_lt hb)
 have old:∀ b o,s2.heap.get? b=some o->h₁.get? b=some o:=fun b o e=>hsb₁.extBut b o (below b (Heap.lt_size e)) (Heap.get?_push_of_some _ (hH2 ▸ Heap.get?_push_of_some _ e))
 have eD:h₁.get? s2.heap.objs.size=some { cls:=.type "list",data:=.seq ([]:List Value).toArray 0 }:=hsb₁.extBut _ _ hDC (Heap.get?_push_of_some _ (hH2 ▸ Heap.get?_push_size _ rfl))
 have ho:∀ b ∈ fp,b < s2.heap.objs.size:=fun b hb=>by
  obtain ⟨o,e,_⟩:=T.obj 0 _ st b hb
  exact Heap.lt_size e
 generalize hYd:comp X Nc scope cl H2.objs.size s2 H fp=Y
 have bodies:=hb cl H2.objs.size s2 H fp
 rw [hYd] at bodies
 obtain ⟨hg,htt,hte⟩:=bodies
 have I0:∀ tk,Inv Y [(s2.heap.objs.size,{ cls:=.type "list",data:=.seq ([]:List Value).toArray 0 })] (mapS mp σ) H { s2 with heap:=h₁,toks:=tk }:=fun tk=>by
  rw [<-hYd]
  exact comp_inv I S h1 h2 hCle hf ho old hns₁ (Nat.le_refl _) hDC eD fun v z=>by cases z
 have hYp:Y.prog=X.prog:=by rw [<-hYd];rfl
 have hYw:Y.w=X.w:=by rw [<-hYd];rfl
 have hYK:Y.K=X.K:=by rw [<-hYd];rfl
 have hYA:Y.A=X.A:=by rw [<-hYd];rfl
 have hYc:Y.calm=true:=by rw [<-hYd];exact hc
 have hYx:Y.xe=fun _ _=>False:=by rw [<-hYd];rfl
 have hYe:Y.env=compEnvC scope cl H2.objs.size X.env:=by rw [<-hYd];rfl
 have hYs:Y.s₀=s2:=by rw [<-hYd];rfl
 have hYex:Y.ex=fp:=by rw [<-hYd];rfl
 have hYpn:Y.pn=[]:=by rw [<-hYd];rfl
 have hYfs:Y.fs=frs X.stack:=by rw [<-hYd];rfl
 -- the iterator's objects,in the block
 have fpY:∀ {o:Obj} {H':Hp},(∀ b ∈ fp,H' b=none)->∀ b ∈ fp,FpOk Y [(s2.heap.objs.size,o)] H' b:=fun {o H'} hn b hb=>by
  refine ⟨hn b hb,?_,?_,.inl (by rw [hYex];exact hb),fun x c e=>?_,fun p hp=>?_⟩
  ·rw [hYe];exact below b (ho b hb)
  ·rw [hYfs]
   intro z
   rcases List.mem_cons.mp (I.stkSub b z) with e | e
   ·exact (hf b hb).2.1 e
   ·exact (hf b hb).2.2.1 e
  ·rw [hYe] at e
   exact (hf b hb).2.2.2.2.1 x c (h1 x c e)
  ·rw [hYpn] at hp
   have e:p=(s2.heap.objs.size,o):=by simpa using hp
   subst e
   exact Nat.ne_of_gt (ho b hb)
 have loop:∀ s₃:Shared,s₃={ s2 with heap:=h₁,toks:=s2.toks+([]:List (Str × Value)).length } →
   codeAny (model X.prog X.w) X.A (.compLoop (.ListComp elt [⟨tg,iter,ifs,0⟩] scope pos) 0 (.ref it) (.ref s2.heap.objs.size) (compEnvC scope cl H2.objs.size X.env))
    (RR (.ref s2.heap.objs.size) H2.objs.size) s₃:=by
  rintro s₃ rfl
  refine compLoop_any (fun n s'=>∃ i σ' H' acc its k,Inv Y [(s2.heap.objs.size,{ cls:=.type "list",data:=.seq its.toArray k })] σ' H' s'/\tn i s'.heap/\(∀ b ∈ fp,H' b=none)/\Vals acc its/\acc.length<=sizeLine/\W i n σ' acc H') ?_ m0
   ⟨0,mapS mp σ,H,[],[],0,I0 _,T.keep 0 _ _ st fun b _ o e=>old b o e,fun b hb=>(hf b hb).1,.nil,Nat.zero_le _,w0⟩
  rintro n s3 ⟨i,σ3,H3,acc,its,k,I3,st3,fr3,hv,hz,w3⟩
  rcases turn i n σ3 acc H3 w3 with ⟨stop,hzz,qn⟩ | ⟨go,step⟩
  ·have hd:=T.done Y hYp hYw hYK hYc i _ s3 σ3 H3 NE I3 (fpY fr3) st3 stop
   rw [hYA] at hd
   refine thn hd fun r s4 ⟨hr,I4⟩=>?_
   subst hr
   have I4':=I4
   rw [<-hYd] at I4'
   have nC:H3 H2.objs.size=none:=by
    have z:=I4.free
    rw [hYe] at z
    exact z
   obtain ⟨_,nD⟩:=comp_out I hCle (Nat.le_refl _) hDC hf I4' (Heap.SameBut.refl _ s4.heap) hv hzz
   refine hR _ _ s4 _ hCle (Nat.le_refl _) hDC ?_ (fun h' hs'=>(comp_out I hCle (Nat.le_refl _) hDC hf I4' hs' hv hzz).1) ?_ (qn _ nD)
   ·obtain ⟨m',hn',_⟩:=I4.loc
    rw [hYe] at hn'
    exact ⟨m',hn'⟩
   ·rw [upd_ne (Ne.symm hDC)];exact nC
  ·have hi:=T.item Y hYp hYw hYK hYc i _ s3 σ3 H3 NE I3 (fpY fr3) st3 go
   rw [hYA] at hi
   refine thn hi fun r s4 ⟨u,hr,h4⟩=>?_
   subst hr
   refine thn h4 fun _ s5 ⟨x,H5,I5,r5,y5,st5,fr5⟩=>?_
   have I5':=I5.pinned (fpY fr5) (T.obj _ _ st5)
   have ha:=hg _ s5 σ3 H5 x u _ I5' r5 (step x H5 y5)
   rw [hYp,hYw,hYA,hYe,hYx] at ha
   refine thn ha fun _ s6 ⟨σ6,H6,I6,q6⟩=>?_
   have ht:=htt _ s6 σ6 H6 _ I6 q6
   rw [hYp,hYw,hYA,hYe,hYx] at ht
   refine thn ht fun ok s7 ⟨H7,I7,q7⟩=>?_
   cases ok with
   | false=>
    have q7':∃ m',m' < n/\W (i+1) m' σ6 acc H7:=q7
    obtain ⟨m',hm,w7⟩:=q7'
    rw [if_neg Bool.false_ne_true]
    refine ⟨m',hm,i+1,σ6,H7,acc,its,k,I7.unpinned,T.keep _ _ _ st5 fun b hb o e=>(I7.pin (b,o) (List.mem_append_right _ (List.mem_append_right _ (mem_pinsAt hb e)))).1,fun b hb=>?_,hv,hz,w7⟩
    obtain ⟨o,e,d⟩:=T.obj _ _ st5 b hb
    exact (I7.pin (b,o) (List.mem_append_right _ (List.mem_append_right _ (mem_pinsAt hb e)))).2.1
   | true=>
    rw [if_pos rfl]
    have he:=hte _ s7 σ6 H7 _ I7 q7
    rw [hYp,hYw,hYA,hYe,hYx] at he
    refine thn he fun x4 s8 ⟨v,H8,I8,r8,hlt,m',hm,w8⟩=>?_
    have st8:tn (i+1) s8.heap:=T.keep _ _ _ st5 fun b hb o e=>(I8.pin (b,o) (List.mem_append_right _ (List.mem_append_right _ (mem_pinsAt hb e)))).1
    have fr8:∀ b ∈ fp,H8 b=none:=fun b hb=>by
     obtain ⟨o,e,d⟩:=T.obj _ _ st5 b hb
     exact (I8.pin (b,o) (List.mem_append_right _ (List.mem_append_right _ (mem_pinsAt hb e)))).2.1
    have I8':=I8.unpinned
    obtain ⟨e8,n8,ne8,nf8,_⟩:=I8'.pin (s2.heap.objs.size,{ cls:=.type "list",data:=.seq its.toArray k }) (List.mem_append_right _ List.mem_cons_self)
    refine wpAny_list_append_plain (items:=its.toArray) ⟨k,e8⟩ (fun h9 hl9 hs9=>?_) (by rw [List.size_toArray,<-hv.length];exact hz)
    obtain ⟨k9,e9⟩:=hl9
    have ep:its.toArray.push x4=(its++[x4]).toArray:=by simp
    rw [ep] at e9
    -- the list has turned
    have I9:Inv Y [] σ6 H8 { s8 with heap:=h9 }:=by
     refine (I8'.pins_of (pins':=[]) fun p hp=>nomatch hp).turned (t':=s8.toks) (it:=s2.heap.objs.size) (fun b o hb e=>(hs9.2 b hb).trans e) n8 ne8 (.inr (by rw [hYs];exact Nat.le_refl _)) (fun x c e z=>?_) fun p hp=>?_
     ·rw [hYe] at e
      obtain ⟨v',o',ho',_⟩:=I.cell x c (h1 x c e)
      exact absurd (Heap.lt_size ho') (by rw [z];exact Nat.lt_irrefl _)
     ·rw [hYpn] at hp
      exact absurd hp (by simp)
    refine ⟨m',hm,i+1,σ6,H8,acc++[v],its++[x4],k9,I9.pins_of fun p hp=>?_,?_,fr8,hv.append (.cons r8 .nil),?_,w8⟩
    ·have e:p=(s2.heap.objs.size,{ cls:=.type "list",data:=.seq (its++[x4]).toArray k9 }):=by simpa using hp
     subst e
     exact ⟨e9,n8,ne8,nf8,fun v z=>by cases z⟩
    ·exact T.keep _ _ _ st8 fun b hb o e=>(hs9.2 b (Nat.ne_of_lt (ho b hb))).trans e
    ·rw [List.length_append,List.length_singleton];omega
 have hself:=T.self X.A 0 { s2 with heap:=h₁,toks:=s2.toks+([]:List (Str × Value)).length } (fun it' s'=>codeAny (model X.prog X.w) X.A (.compLoop (.ListComp elt [⟨tg,iter,ifs,0⟩] scope pos) 0 it' (.ref s2.heap.objs.size) (compEnvC scope cl H2.objs.size X.env))
    (RR (.ref s2.heap.objs.size) H2.objs.size) s') (notedBy (model X.prog X.w) X.A (compEnvC scope cl H2.objs.size X.env) fun x s'=>RR (.ref s2.heap.objs.size) H2.objs.size (.error x) s') (T.keep 0 _ _ st fun b _ o e=>old b o e) (loop _ rfl)
 exact codeAny_compStart_list (loop _ rfl) hself
theorem clos_of (S:CompOk X scope Nc mp) {pins:List (Addr × Obj)} {σ:L2.St} {H:Hp} {s:Shared} (I:Inv X pins σ H s):∃ cl,closureFor scope X.env=pure cl/\(∀ x c,cl.lookup x=some c->X.env.cells.lookup x=some c)/\(∀ y ∈ scope.names,y.2=.free->∃ c,cl.lookup y.1=some c):=
 closure_ok fun y hy hf=>I.ok.has y.1 (S.fre y hy hf)
theorem pe_comp (hc:X.calm=true) (S:CompOk X scope Nc mp) (hi:PI X tg iter wi)
  (hb:∀ cl C s H fp,PG (comp X Nc scope cl C s H fp) tg g/\PTs (comp X Nc scope cl C s H fp) ifs tt/\PE (comp X Nc scope cl C s H fp) elt te)
  (hs:∀ x,foldedSetIterable iter X.env x=pure x:=by intro _;rfl):PE X (.ListComp elt [⟨tg,iter,ifs,0⟩] scope pos) (tComp mp wi g tt te):=by
 intro pins s σ H Q I h
 obtain ⟨cl,hcl,h1,h2⟩:=clos_of S I
 rw [eval_ListComp]
 refine wpAny_comprehension_free (use:=none) rfl hs hcl S.kind S.loc (thn (hi pins s σ H _ I h) fun v s1 hv=>thn hv fun itv s2 hq=>?_)
 obtain ⟨it,fp,tn,J,H2,e,I2,T,st2,f2,hw⟩:=hq
 subst e
 refine comp_block (RR:=fun acc C=>compPost (model X.prog X.w) X.A X.xe none (EP X pins σ Q) acc C) (Q:=Q) hc S hb h1 h2 I2 T st2 f2 hw fun D C s' H' hC hD hDC hm hI hn hq=>?_
 obtain ⟨m,hm⟩:=hm
 exact ⟨m,hm,fun h' hs'=>⟨.ref D,H',hI h' hs',rfl,hq⟩⟩
theorem ps_setC {i:Nat} {x:Str} {pos' spos:Pos} (hc:X.calm=true) (hN:X.N.Nodup) (hiN:X.N[i]?=some x) (hx:X.env.scope.names.lookup x=some .local) (S:CompOk X scope Nc mp) (hi:PI X tg iter wi)
  (hb:∀ cl C s H fp,PG (comp X Nc scope cl C s H fp) tg g/\PTs (comp X Nc scope cl C s H fp) ifs tt/\PE (comp X Nc scope cl C s H fp) elt te)
  (hsw:swapsWith (.ListComp elt [⟨tg,iter,ifs,0⟩] scope pos) (some (.Name x pos')) spos.line X.env=pure true:=by rfl)
  (hs:∀ x,foldedSetIterable iter X.env x=pure x:=by intro _;rfl):PS X (.Assign [.Name x pos'] (.ListComp elt [⟨tg,iter,ifs,0⟩] scope pos) spos) (tAsg (tComp mp wi g tt te) (gName i)):=by
 intro pins s σ H D I h
 obtain ⟨cl,hcl,h1,h2⟩:=clos_of S I
 rw [exec_Assign_Name_used _ _ _ _ hsw]
 refine wpAny_bind (wpAny_standAt (wpAny_bind ?_))
 show wpAny _ X.A (do let _ <-comprehension (.ListComp elt [⟨tg,iter,ifs,0⟩] scope pos) scope X.env _ (newList []) false (eval iter X.env) (some (assign (.Name x pos') X.env))) _ _ s
 refine wpAny_bind (wpAny_mono (wpAny_comprehension_free (use:=some (assign (.Name x pos') X.env)) (Q:=fun _ s'=>SP X pins D .next s') rfl hs hcl S.kind S.loc (thn (hi pins s σ H _ I h) fun v s1 hv=>thn hv fun itv s2 hq=>?_)) (fun _ s' hq=>wpAny_pure (wpAny_pure hq)) fun _ _ e=>e)
 obtain ⟨it,fp,tn,J,H2,e,I2,T,st2,f2,hw⟩:=hq
 subst e
 refine comp_block (RR:=fun acc C=>compPost (model X.prog X.w) X.A X.xe (some (assign (.Name x pos') X.env)) (fun _ s'=>SP X pins D .next s') acc C) (Q:=fun v H1=>D.nx (σ.set i (some v)) H1) hc S hb h1 h2 I2 T st2 f2 hw fun A C s' H' hC hD hDC hm hI hn hq=>?_
 obtain ⟨m,hm⟩:=hm
 show wpAny _ X.A (assign (.Name x pos') X.env (.ref A)) _ _ s'
 have I0:Inv X pins σ H' s':=hI s'.heap (Heap.SameBut.refl ..)
 have hLC:X.env.locals ≠ C:=Nat.ne_of_lt (Nat.lt_of_lt_of_le I2.lt hC)
 have hcC:∀ y c,X.env.cells.lookup y=some c->c ≠ C:=fun y c e z=>by
  obtain ⟨v,o,ho,_⟩:=I2.cell y c e
  exact absurd (Nat.lt_of_lt_of_le (Heap.lt_size ho) hC) (by rw [z];exact Nat.lt_irrefl _)
 refine wpAny_assign_Name (store_ok2 I0 hN hiN (.inl hx) (show RelV (.ref A) (.ref A) from rfl) (fun s6 I6 hch=>?_) (.inr hx))
 obtain ⟨a,hs6,ha⟩:=hch
 have hCa:C ≠ a:=by
  rcases ha with z | z
  ·rw [z];exact Ne.symm hLC
  ·exact Ne.symm (hcC x a z)
 refine ⟨m,hm.sameBut hs6 hCa,fun h' hs'=>?_⟩
 have I7:Inv X pins (σ.set i (some (.ref A))) H' { s6 with heap:=h' }:=I6.turned (t':=s6.toks) (it:=C) (fun b o hb e=>(hs'.2 b hb).trans e) hn (Ne.symm hLC) (.inr (Nat.le_trans I2.sz hC)) hcC fun p hp z=>by
  exact absurd (Nat.lt_of_lt_of_le (Heap.lt_size (I2.pin p hp).1) hC) (by rw [z];exact Nat.lt_irrefl _)
 exact ⟨_,H',I7,hq⟩
end
end L3
namespace L3
open PySem PySem.Spec PyProof.Rows L2
theorem bounds_gen (lo hi:Option Int) (n:Nat):sliceBounds lo hi none n=(((HT.sIx n 0 lo:Nat):Int),((HT.sIx n n hi:Nat):Int),1):=by
 have clip:∀ (v:Int),max 0 (min (if v < 0 then v+(n:Int) else v) (n:Int))=(((if v < 0 then (v+(n:Int)).toNat else min v.toNat n):Nat):Int):=fun v=>by
  by_cases hv:v < 0
  ·rw [if_pos hv,if_pos hv];omega
  ·rw [if_neg hv,if_neg hv];omega
 unfold sliceBounds
 refine Prod.ext ?_ (Prod.ext ?_ rfl)
 ·cases lo with
  | none=>rfl
  | some v=>exact clip v
 ·cases hi with
  | none=>rfl
  | some v=>exact clip v
theorem slicePick_cut (its:List Value) (lo hi:Option Int):slicePick its.toArray lo hi none=((its.drop (HT.sIx its.length 0 lo)).take (HT.sIx its.length its.length hi - HT.sIx its.length 0 lo)).toArray:=by
 unfold slicePick
 rw [bounds_gen,List.size_toArray]
 dsimp only
 rw [sliceRange_one,pick_run]
theorem strIx_gen (lo hi:Option Int) (n:Nat):Builtin.Str.strSliceIndices lo hi 1 n=(List.range (HT.sIx n n hi - HT.sIx n 0 lo)).map (HT.sIx n 0 lo+·):=by
 have clip:∀ (v:Int),max 0 (min (if v < 0 then v+(n:Int) else v) (n:Int))=(((if v < 0 then (v+(n:Int)).toNat else min v.toNat n):Nat):Int):=fun v=>by
  by_cases hv:v < 0
  ·rw [if_pos hv,if_pos hv];omega
  ·rw [if_neg hv,if_neg hv];omega
 rw [<-sliceRange_one]
 unfold Builtin.Str.strSliceIndices
 have e1:(match lo with | none=>(0:Int) | some i=>max 0 (min (if i < 0 then i+(n:Int) else i) (n:Int)))=((HT.sIx n 0 lo:Nat):Int):=by
  cases lo with
  | none=>rfl
  | some v=>exact clip v
 have e2:(match hi with | none=>(n:Int) | some i=>max 0 (min (if i < 0 then i+(n:Int) else i) (n:Int)))=((HT.sIx n n hi:Nat):Int):=by
  cases hi with
  | none=>rfl
  | some v=>exact clip v
 rw [<-e1,<-e2]
 cases lo <;> cases hi <;> rfl
def cutL (l:List Nat) (lo hi:Option Int):List Nat:=(l.drop (HT.sIx l.length 0 lo)).take (HT.sIx l.length l.length hi - HT.sIx l.length 0 lo)
theorem slice_cut (z:Str) (lo hi:Option Int):Txt.slice z lo hi=⟨(cutL z.cps.toList lo hi).toArray⟩:=by
 have hl:z.cps.toList.length=z.length:=by simp [Str.length]
 have hb:HT.sIx z.length z.length hi<=z.length:=HT.sIx_le _ _ (Nat.le_refl _) hi
 unfold Txt.slice cutL
 rw [strIx_gen,hl]
 by_cases h:((1:Int) == 1 && ((List.range (HT.sIx z.length z.length hi - HT.sIx z.length 0 lo)).map (HT.sIx z.length 0 lo+·)).length == z.length)=true
 ·rw [if_pos h]
  rw [Bool.and_eq_true,List.length_map,List.length_range] at h
  have h2:=eq_of_beq h.2
  have e:(z.cps.toList.drop (HT.sIx z.length 0 lo)).take (HT.sIx z.length z.length hi - HT.sIx z.length 0 lo)=z.cps.toList:=by
   by_cases h0:z.length=0
   ·have:z.cps.toList=[]:=List.eq_nil_of_length_eq_zero (by rw [hl];exact h0)
    rw [this];simp
   ·have ha:HT.sIx z.length 0 lo=0:=by omega
    rw [ha,List.drop_zero]
    exact List.take_of_length_le (by rw [hl];omega)
  rw [e]
 ·rw [if_neg h,pick_run]
theorem str_mk (z:Str):(⟨z.cps.toList.toArray⟩:Str)=z:=by cases z;simp
section
variable {X:Cx}
def rSlLs (K:PySem.W.Frag):V->Option Int->Option Int->Hp->VK->Prop:=fun x lo hi H Q=>∃ a xs,x=.ref a/\SqL K H a xs/\∀ p,H p=none->Q (.ref p) (upd H p (.lst (cutV xs lo hi)))
theorem sl_lst:SlR X (rSlLs X.K):=by
 intro pins s σ H x v vl vu lo hi sl Q I rx hs pl pu h
 obtain ⟨a,xs,rfl,hx,q⟩:=h
 cases rx
 obtain ⟨its,r,hp,hz⟩:=I.list hx
 refine ⟨"list",_,list_getitem_lookup,hp.isList.typeIs,?_⟩
 refine wpAny_getItem_list_slice hp.isList hs pl pu .none (by simp) ?_ (by rw [List.size_toArray,<-r.length];exact hz)
 rw [slicePick_cut,<-r.length]
 exact ⟨.ref _,_,I.lnew (t':=s.toks) ((r.drop _).take _) (Nat.le_trans (cutV_length xs lo hi) hz),rfl,q _ I.fresh⟩
def rSlS:V->Option Int->Option Int->Hp->VK->Prop:=fun x lo hi H Q=>∃ z,x=.str z/\z.length<=sizeLine/\Q (.str ⟨(cutL z.cps.toList lo hi).toArray⟩) H
theorem sl_str:SlR X rSlS:=by
 intro pins s σ H x v vl vu lo hi sl Q I rx hs pl pu h
 obtain ⟨z,rfl,hz,q⟩:=h
 obtain ⟨t,rfl⟩:=rx
 refine ⟨"str",_,F.slot_str_getitem.lookup,typeIs_str _ _ _,?_⟩
 have fin:∀ t' k,EP X pins σ Q (.str (Txt.slice z lo hi) t') { s with toks:=k }:=fun t' k=>by
  rw [slice_cut]
  exact ⟨.str _,H,I.tok _,⟨_,rfl⟩,q⟩
 obtain ⟨os,hos,hcs,hds⟩:=id hs
 cases pl with
 | none=>
  cases pu with
  | none=>exact wpAny_getItem_str_slice (l:=none) (u:=none) (st:=none) ⟨os,hos,hcs,hds⟩ rfl (post_val_or_str ⟨Nat.le_trans (Txt.slice_le z _ _) hz,fin⟩)
  | int j uj=>exact wpAny_getItem_str_slice (l:=none) (u:=some (j,uj)) (st:=none) ⟨os,hos,hcs,hds⟩ rfl (post_val_or_str ⟨Nat.le_trans (Txt.slice_le z _ _) hz,fin⟩)
 | int i ui=>
  cases pu with
  | none=>exact wpAny_getItem_str_slice (l:=some (i,ui)) (u:=none) (st:=none) ⟨os,hos,hcs,hds⟩ rfl (post_val_or_str ⟨Nat.le_trans (Txt.slice_le z _ _) hz,fin⟩)
  | int j uj=>exact wpAny_getItem_str_slice (l:=some (i,ui)) (u:=some (j,uj)) (st:=none) ⟨os,hos,hcs,hds⟩ rfl (post_val_or_str ⟨Nat.le_trans (Txt.slice_le z _ _) hz,fin⟩)
theorem strsAre_of {ws:List Str}:∀ {us:List Value},Vals (ws.map V.str) us->StrsAre us ws:=by
 induction ws with
 | nil=>intro us r;rw [List.map_nil] at r;cases r;exact .nil
 | cons z ws ih=>
  intro us r
  rw [List.map_cons] at r
  cases r with
  | cons r1 r2=>
   obtain ⟨t,e⟩:=r1
   subst e
   exact .cons z t (ih r2)
def rJoin (K:PySem.W.Frag):V->List V->Hp->VK->Prop:=fun x vs H Q=>∃ sep p ws,x=.str sep/\vs=[.ref p]/\(SqL K H p (ws.map V.str)\/SqT K H p (ws.map V.str))/\(ws.map (·.length)).sum+ws.length * sep.length<=16777216/\Q (.str (Txt.join sep ws)) H
theorem mt_join:MtR X "str.join" (rJoin X.K):=by
 intro pins s σ H x xs v us Q I rx rv h
 obtain ⟨sep,p,ws,rfl,rfl,hq,hz,q⟩:=h
 obtain ⟨t,rfl⟩:=rx
 obtain ⟨u,rfl,ru⟩:=rv.one
 cases ru
 rcases hq with hq | hq
 ·obtain ⟨its,r,hp,_⟩:=I.list hq
  exact join_list hp.isList (by simpa using strsAre_of r) hz fun t' k=>⟨.str _,H,I.tok _,⟨_,rfl⟩,q⟩
 ·obtain ⟨its,r,hp,_⟩:=I.tuple hq
  exact join_tuple hp (by simpa using strsAre_of r) hz fun t' k=>⟨.str _,H,I.tok _,⟨_,rfl⟩,q⟩
theorem all_range (bs:List Bool):(List.range bs.length).all (fun i=>bs.getD i false)=bs.all id:=by
 rw [Bool.eq_iff_iff,List.all_eq_true,List.all_eq_true]
 constructor
 ·intro h b hb
  obtain ⟨i,hi,e⟩:=List.mem_iff_getElem.mp hb
  have:=h i (List.mem_range.mpr hi)
  rw [List.getD_eq_getElem?_getD,List.getElem?_eq_getElem hi] at this
  rw [<-e];exact this
 ·intro h i hi
  have hi':=List.mem_range.mp hi
  rw [List.getD_eq_getElem?_getD,List.getElem?_eq_getElem hi']
  exact h _ (List.getElem_mem hi')
theorem call_all (hc:X.calm=true):CallR X (.builtin "all") (fun xs H Q=>∃ (p:Addr) (bs:List Bool),xs=[.ref p]/\SqL X.K H p (bs.map V.bl)/\Q (.bl (bs.all id)) H):=by
 intro pins s σ H xs us Q I r h
 obtain ⟨p,bs,rfl,hq,q⟩:=h
 obtain ⟨u,rfl,ru⟩:=r.one
 cases ru
 obtain ⟨its,rv,hp,hz⟩:=I.list hq
 have hlt:p < s.heap.objs.size:=by obtain ⟨_,e,_⟩:=hp.isList;exact Heap.lt_size e
 refine call_all_walk (wpAny_pyIter_list hp.isList ?_)
 refine ⟨s.heap.objs.size,[s.heap.objs.size,p],[s.heap.objs.size],its.toArray.size,_,_,fun i=>bs.getD i false,rfl,Walks.list (A:=X.A.in1) (I.ok.hd hc) _ _ (Nat.ne_of_lt hlt) its.toArray,⟨⟨_,Heap.get?_push_size _ rfl,rfl,rfl⟩,hp.isList.push _⟩,?_,?_⟩
 ·intro i v s' Q' E' hv hQ'
  have hv':its[i]?=some v:=by simpa using hv
  have hi:i < (bs.map V.bl).length:=by
   rw [rv.length];exact (List.getElem?_eq_some_iff.mp hv').1
  have hib:i < bs.length:=by simpa using hi
  obtain ⟨u,hu,ru⟩:=rv.get (i:=i) (x:=V.bl bs[i]) (by rw [List.getElem?_map,List.getElem?_eq_getElem hib];rfl)
  rw [hv'] at hu;cases hu
  cases ru
  have e:bs.getD i false=bs[i]:=by rw [List.getD_eq_getElem?_getD,List.getElem?_eq_getElem hib];rfl
  dsimp only at hQ'
  rw [e] at hQ'
  exact wpAny_truthy_bool hQ'
 ·intro h' tk hk
  have el:its.toArray.size=bs.length:=by rw [List.size_toArray,<-rv.length,List.length_map]
  rw [el,all_range]
  exact ⟨.bl _,H,I.kept fun b o e=>hk b o (fun z=>absurd (Heap.lt_size e) (by rw [List.mem_singleton.mp z];exact Nat.lt_irrefl _)) (Heap.get?_push_of_some _ e),rfl,q⟩
theorem call_isi:CallR X (.builtin "isinstance") (fun xs H Q=>∃ x n t b,xs=[x,.ty n]/\TyOf X.K H x t/\PySem.W.kitOne X.K t (.type n)=some b/\Q (.bl b) H):=by
 intro pins s σ H xs us Q I r h
 obtain ⟨x,n,t,b,rfl,ty,e,q⟩:=h
 obtain ⟨u,u2,rfl,r1,r2⟩:=r.two
 cases r2
 exact isinst_ok I r1 ty e fun tk=>⟨.bl b,H,I.tok _,rfl,q⟩
def Its (z:Str):It:=⟨fun i _=>i < z.length,fun i H x H'=>H'=H/\∃ c,z.cps[i]?=some c/\x=.str ⟨#[c]⟩,fun i _=>z.length<=i⟩
theorem turn_str {P:Program} {w:World} {K:PySem.W.Frag} {tg:Expr} (z:Str) (t:Tok) (it:Addr):Turn P w K tg (Its z) [it] it (fun i h=>h.IsStrIter it (strIterType z) z t i) where
 mem:=by simp
 obj:=fun i h st b hb=>by
  have e:b=it:=by simpa using hb
  subst e
  obtain ⟨o,e,c,d⟩:=st
  exact ⟨o,e,fun v z=>by rw [d] at z;cases z⟩
 keep:=fun i h h' st k=>by
  obtain ⟨o,e,r⟩:=st
  exact ⟨o,k it (by simp) o e,r⟩
 item:=by
  intro X hP hw hK hc i pins s σ H E I hf st hg
  subst hP hw hK
  have hg':i < z.cps.size:=hg
  obtain ⟨f0,f1,f2,f3,f4,f5⟩:=hf it (by simp)
  have fin:∀ h' tk,h'.IsStrIter it (strIterType z) z t (i+1)->Heap.SameBut it s.heap h'->∃ u,some (Value.str ⟨#[z.cps[i]]⟩ s.toks)=some u ∧
    wpAny (model X.prog X.w) X.A (letOwnedTupleGo tg (.ref it) u) (fun _ s2=>∃ x H',Inv X pins σ H' s2/\RelV x u/\(Its z).yld i H x H'/\s2.heap.IsStrIter it (strIterType z) z t (i+1)/\∀ b ∈ [it],H' b=none) E { s with heap:=h',toks:=tk }:=fun h' tk st' sb=>by
   have I1:Inv X pins σ H { s with heap:=h',toks:=tk }:=I.turned (fun b o hb e=>(sb.2 b hb).trans e) f0 f1 f3 f4 f5
   obtain ⟨o,e,c,d⟩:=id st'
   refine ⟨_,rfl,go_of (s:={ s with heap:=h',toks:=tk }) e c d ?_ ⟨.str ⟨#[z.cps[i]]⟩,H,I1,⟨_,rfl⟩,⟨rfl,_,by simp [hg'],rfl⟩,st',fun b hb=>(hf b hb).1⟩⟩
   unfold strIterType
   split <;> decide
  cases ha:z.cps.all (· < 128) with
  | true=>
   have e:strIterType z = "str_ascii_iterator" := by simp [strIterType,ha]
   rw [e] at st fin ⊢
   exact wpAny_pyNext_ascii_item st (c:=z.cps[i]) (by simp [hg']) fun h' st' sb=>fin h' _ st' sb
  | false=>
   have e:strIterType z = "str_iterator" := by simp [strIterType,ha]
   rw [e] at st fin ⊢
   exact wpAny_pyNext_wide_item st (c:=z.cps[i]) (by simp [hg']) fun h' st' sb=>fin h' _ st' sb
 done:=by
  intro X hP hw hK hc i pins s σ H E I hf st hg
  subst hP hw hK
  have hg':z.cps.size<=i:=hg
  obtain ⟨f0,f1,f2,f3,f4,f5⟩:=hf it (by simp)
  cases ha:z.cps.all (· < 128) with
  | true=>
   have e:strIterType z = "str_ascii_iterator" := by simp [strIterType,ha]
   rw [e] at st
   exact wpAny_pyNext_ascii_end (I.ok.hd hc) st (by simp [hg']) fun h' eb=>⟨rfl,I.turned (t':=s.toks) (fun b o hb e=>eb b o hb e) f0 f1 f3 f4 f5⟩
  | false=>
   have e:strIterType z = "str_iterator" := by simp [strIterType,ha]
   rw [e] at st
   exact wpAny_pyNext_wide_end (I.ok.hd hc) st (by simp [hg']) fun h' eb=>⟨rfl,I.turned (t':=s.toks) (fun b o hb e=>eb b o hb e) f0 f1 f3 f4 f5⟩
 self:=fun _ _ _ _ _ st h=>by
  cases ha:z.cps.all (· < 128) with
  | true=>
   have e:strIterType z = "str_ascii_iterator" := by simp [strIterType,ha]
   rw [e] at st
   exact wpAny_pyIter_striter_ascii st h
  | false=>
   have e:strIterType z = "str_iterator" := by simp [strIterType,ha]
   rw [e] at st
   exact wpAny_pyIter_striter_wide st h
def iStr (tl:TE):TI:=fun σ H R=>tl σ H fun x H1=>∃ z,x=.str z/\R (Its z) H1
theorem pi_str {tg l:Expr} {tl:TE} (hl:PE X l tl):PI X tg l (iStr tl):=by
 intro pins s σ H R I h
 refine thn (hl pins s σ H _ I h) fun v s1 ⟨x,H1,I1,r1,q1⟩=>?_
 obtain ⟨z,e,q⟩:=q1
 subst e
 obtain ⟨t,rfl⟩:=r1
 refine wpAny_pyIter_strU ?_
 refine ⟨s1.heap.objs.size,[s1.heap.objs.size],_,_,H1,rfl,I1.kept (t':=s1.toks) fun b o e=>Heap.get?_push_of_some _ e,turn_str z t _,⟨_,Heap.get?_push_size _ rfl,rfl,rfl⟩,fun b hb=>?_,q⟩
 have e:b=s1.heap.objs.size:=by simpa using hb
 subst e
 exact I1.fpOk (Nat.le_refl _) (I1.hok.fresh (Nat.le_refl _))
end
end L3
namespace L3
open PySem PySem.Spec PyProof.Rows L2
def mapChk (sc:Scope) (N:List Str) (own:Scope):List Str->List (Option Nat)->Bool
 | [],[]=>true
 | _ :: r,none :: m=>mapChk sc N own r m
 | x :: r,some i :: m=>(N[i]? == some x && (sc.names.lookup x == some .cell || sc.names.lookup x == some .free) && own.names.lookup x == some .free) && mapChk sc N own r m
 | _,_=>false
def compChk (sc:Scope) (N:List Str) (own:Scope) (Nc:List Str) (mp:List (Option Nat)):Bool:=
 (own.kind == .function) && (own.names.all fun y=>y.2 != .cell) && (own.names.all fun y=>y.2 != .local || own.names.lookup y.1 == some .local) &&
 (own.names.all fun y=>y.2 != .free || (sc.names.lookup y.1 == some .cell || sc.names.lookup y.1 == some .free)) && mapChk sc N own Nc mp
theorem mapChk_ok {X:Cx} {own:Scope}:∀ {Nc:List Str} {mp:List (Option Nat)},mapChk X.env.scope X.N own Nc mp=true->MapOk X own Nc mp
 | [],[],_=>trivial
 | _ :: r,none :: m,h=>mapChk_ok (Nc:=r) (mp:=m) h
 | x :: r,some i :: m,h=>by
  unfold mapChk at h
  simp only [Bool.and_eq_true,Bool.or_eq_true,beq_iff_eq] at h
  exact ⟨⟨h.1.1.1,h.1.1.2,h.1.2⟩,mapChk_ok h.2⟩
 | [],_ :: _,h=>absurd (show false=true from h) Bool.false_ne_true
 | _ :: _,[],h=>absurd (show false=true from h) Bool.false_ne_true
theorem CompOk.of {X:Cx} {own:Scope} {Nc:List Str} {mp:List (Option Nat)} (h:compChk X.env.scope X.N own Nc mp=true):CompOk X own Nc mp:=by
 unfold compChk at h
 simp only [Bool.and_eq_true,List.all_eq_true,Bool.or_eq_true,beq_iff_eq,bne_iff_ne] at h
 obtain ⟨⟨⟨⟨h1,h2⟩,h3⟩,h4⟩,h5⟩:=h
 refine ⟨h1,h2,fun y hy e=>?_,fun y hy e=>?_,mapChk_ok h5⟩
 ·rcases h3 y hy with z | z
  ·exact absurd e z
  ·exact z
 ·rcases h4 y hy with z | z
  ·exact absurd e z
  ·exact z
structure Src (J:It) (H:Hp) (xs:List V):Prop where
 go:∀ i,i < xs.length->J.go i H
 yld:∀ i x H',i < xs.length->J.yld i H x H'->H'=H/\xs[i]?=some x
 stop:∀ i,xs.length<=i->J.stop i H
theorem src_str (z:Str) (H:Hp):Src (Its z) H (z.cps.toList.map fun c=>V.str ⟨#[c]⟩) where
 go:=fun i h=>by
  rw [List.length_map,Array.length_toList] at h
  exact h
 yld:=fun i x H' _ h=>by
  obtain ⟨e,c,hc,rfl⟩:=h
  exact ⟨e,by rw [List.getElem?_map,Array.getElem?_toList,hc];rfl⟩
 stop:=fun i h=>by
  rw [List.length_map,Array.length_toList] at h
  exact h
theorem src_range (lo:Int) (n:Nat) (H:Hp):Src (Itr lo n) H ((List.range n).map fun i=>V.int (lo+(i:Nat))) where
 go:=fun i h=>by
  rw [List.length_map,List.length_range] at h
  exact h
 yld:=fun i x H' hi h=>by
  obtain ⟨e,rfl⟩:=h
  rw [List.length_map,List.length_range] at hi
  exact ⟨e,by rw [List.getElem?_map,List.getElem?_range hi];rfl⟩
 stop:=fun i h=>by
  rw [List.length_map,List.length_range] at h
  exact h
theorem src_list {K:PySem.W.Frag} {H:Hp} {a:Addr} {xs:List V} (h:SqL K H a xs):Src (Itl K a) H xs where
 go:=fun i hi=>⟨xs,xs[i],h,by simp [hi]⟩
 yld:=fun i x H' _ q=>⟨q.1,q.2 xs h⟩
 stop:=fun i hi=>⟨xs,h,hi⟩
theorem src_tup {K:PySem.W.Frag} {H:Hp} {a:Addr} {xs:List V} (h:SqT K H a xs):Src (Itt K a) H xs where
 go:=fun i hi=>⟨xs,xs[i],h,by simp [hi]⟩
 yld:=fun i x H' _ q=>⟨q.1,q.2 xs h⟩
 stop:=fun i hi=>⟨xs,h,hi⟩
theorem comp_pure {α:Type} {J:It} {H:Hp} {as:List α} {v:α->V} (f:α->Bool) (e:α->V) {tt:TT} {te:TE} {Q:VK} {rest:L2.St} (S:Src J H (as.map v)) (hz:as.length<=sizeLine)
  (ht:∀ a ∈ as,∀ k:Bool->Hp->Prop,k (f a) H->tt (some (v a) :: rest) H k) (he:∀ a ∈ as,f a=true->∀ k:VK,k (e a) H->te (some (v a) :: rest) H k)
  (hq:∀ D,H D=none->Q (.ref D) (upd H D (.lst ((as.filter f).map e)))):wComp J (gName 0) tt te Q (none :: rest) H:=by
 refine ⟨fun i m σ acc H'=>H'=H/\i<=as.length/\m=as.length - i/\acc=((as.take i).filter f).map e/\∃ o,σ=o :: rest,⟨as.length,rfl,Nat.zero_le _,rfl,by simp,none,rfl⟩,?_⟩
 rintro i m σ acc H' ⟨rfl,hi,rfl,rfl,o,rfl⟩
 have hacc:(((as.take i).filter f).map e).length<=i:=by
  rw [List.length_map]
  exact Nat.le_trans (List.length_filter_le _ _) (by rw [List.length_take];exact Nat.min_le_left _ _)
 by_cases hlt:i < as.length
 ·refine .inr ⟨S.go i (by rw [List.length_map];exact hlt),fun x H1 y=>?_⟩
  obtain ⟨rfl,hx⟩:=S.yld i x H1 (by rw [List.length_map];exact hlt) y
  rw [List.getElem?_map,List.getElem?_eq_getElem hlt] at hx
  have hx':v as[i]=x:=Option.some.inj hx
  subst hx'
  have hm:as[i] ∈ as:=List.getElem_mem hlt
  have ts:as.take (i+1)=as.take i++[as[i]]:=List.take_succ_eq_append_getElem hlt
  show tt (some (v as[i]) :: rest) H1 _
  refine ht _ hm _ ?_
  cases hf:f as[i] with
  | true=>
   rw [if_pos rfl]
   refine he _ hm hf _ ⟨by omega,as.length - (i+1),by omega,rfl,hlt,rfl,?_,_,rfl⟩
   rw [ts,List.filter_append,List.map_append,List.filter_cons_of_pos hf]
   rfl
  | false=>
   rw [if_neg Bool.false_ne_true]
   refine ⟨as.length - (i+1),by omega,rfl,hlt,rfl,?_,_,rfl⟩
   rw [ts,List.filter_append,List.filter_cons_of_neg (by rw [hf];exact Bool.false_ne_true)]
   simp
 ·have ei:i=as.length:=by omega
  subst ei
  refine .inl ⟨S.stop _ (by rw [List.length_map];exact Nat.le_refl _),by omega,fun D hD=>?_⟩
  rw [List.take_length]
  exact hq D hD
theorem comp_map {α:Type} {J:It} {H:Hp} {as:List α} {v:α->V} (e:α->V) {te:TE} {Q:VK} {rest:L2.St} (S:Src J H (as.map v)) (hz:as.length<=sizeLine)
  (he:∀ a ∈ as,∀ k:VK,k (e a) H->te (some (v a) :: rest) H k)
  (hq:∀ D,H D=none->Q (.ref D) (upd H D (.lst (as.map e)))):wComp J (gName 0) tYes te Q (none :: rest) H:=
 comp_pure (fun _=>true) e S hz (fun a _ k hk=>hk) (fun a ha _ k hk=>he a ha k hk) fun D hD=>by
  have e1:as.filter (fun _=>true)=as:=by simp
  rw [e1];exact hq D hD
section
variable {X:Cx} {st:Stmt} {t:TS}
def tMid (t:TS):TS:=fun D σ H=>∃ M:L2.St->Hp->Prop,t { D with nx:=M } σ H/\∀ σ' H',M σ' H'->D.nx σ' H'
theorem ps_mid (h:PS X st t):PS X st (tMid t):=by
 intro pins s σ H D I hw
 obtain ⟨M,h1,h2⟩:=hw
 refine thn (h pins s σ H { D with nx:=M } I h1) fun f s' q=>?_
 cases f with
 | next=>
  obtain ⟨σ',H',I',m⟩:=q
  exact ⟨σ',H',I',h2 _ _ m⟩
 | ret v=>exact q
 | brk=>exact q
 | cont=>exact q
end
theorem szl:(sizeLine:Nat)=16777216:=sizeLine_eq
theorem few {n:Nat} (h:n<=100000):n<=sizeLine:=by rw [szl];omega
theorem fewer {n:Nat} (h:n<=100000):n < sizeLine:=by rw [szl];omega
end L3
namespace Vm
open PySem L2 L3
def Al (c:Nat):Prop:=97<=c/\c<=122
structure Good (z:Str):Prop where
 lo:1<=z.length
 hi:z.length<=12
 al:∀ c ∈ z.cps.toList,Al c
def letters:Str := "abcdefghijklmnopqrstuvwxyz"
theorem letters_cps:letters.cps.toList=(List.range 26).map (97+·):=by decide +kernel
theorem mem_letters {c:Nat}:c ∈ letters.cps.toList ↔ Al c:=by
 rw [letters_cps,List.mem_map]
 unfold Al
 constructor
 ·rintro ⟨i,hi,rfl⟩
  have:=List.mem_range.mp hi
  omega
 ·intro h
  exact ⟨c - 97,List.mem_range.mpr (by omega),by omega⟩
theorem clen (z:Str):z.cps.toList.length=z.length:=by simp [Str.length]
theorem Good.small {z:Str} (g:Good z):z.length<=sizeLine:=few (by have:=g.hi;omega)
def onlyB (z y:Str):Bool:=z.cps.toList.all fun c=>decide (c ∈ y.cps.toList)
def wordB (z:Str):Bool:=decide (1<=z.length/\z.length<=12) && onlyB z letters
theorem wordB_iff {z:Str}:wordB z=true ↔ Good z:=by
 unfold wordB onlyB
 rw [Bool.and_eq_true,decide_eq_true_eq,List.all_eq_true]
 constructor
 ·rintro ⟨⟨h1,h2⟩,h3⟩
  exact ⟨h1,h2,fun c hc=>mem_letters.mp (of_decide_eq_true (h3 c hc))⟩
 ·rintro ⟨h1,h2,h3⟩
  exact ⟨⟨h1,h2⟩,fun c hc=>decide_eq_true (mem_letters.mpr (h3 c hc))⟩
def placesB (a b:List Nat):List Nat:=(List.range a.length).filter fun i=>!decide (a[i]?=b[i]?)
def alikeB (a b:List Nat):Bool:=if a.length=b.length then decide ((placesB a b).length=1) else false
theorem mk_list (l:List Nat):(⟨l.toArray⟩:Str).cps.toList=l:=by simp
theorem mk_len (l:List Nat):(⟨l.toArray⟩:Str).length=l.length:=by
 show l.toArray.size=_
 rw [List.size_toArray]
theorem take_min {α:Type} (l:List α) (n:Nat):l.take (min n l.length)=l.take n:=by
 by_cases h:n<=l.length
 ·rw [Nat.min_eq_left h]
 ·rw [Nat.min_eq_right (by omega),List.take_of_length_le (Nat.le_refl l.length),List.take_of_length_le (l:=l) (i:=n) (by omega)]
theorem drop_min {α:Type} (l:List α) (n:Nat):l.drop (min n l.length)=l.drop n:=by
 by_cases h:n<=l.length
 ·rw [Nat.min_eq_left h]
 ·rw [Nat.min_eq_right (by omega),List.drop_of_length_le (Nat.le_refl l.length),List.drop_of_length_le (l:=l) (i:=n) (by omega)]
theorem cutL_take (l:List Nat) (n:Nat):cutL l none (some (n:Int))=l.take n:=by
 unfold cutL
 rw [HT.sIx_none,HT.sIx_nat,List.drop_zero,Nat.sub_zero,take_min]
theorem cutL_drop (l:List Nat) (n:Nat):cutL l (some (n:Int)) none=l.drop n:=by
 unfold cutL
 rw [HT.sIx_none,HT.sIx_nat,drop_min]
 exact List.take_of_length_le (by rw [List.length_drop];omega)
theorem al_mod (n:Nat) (h:n < 26):Al (97+n):=by unfold Al;omega
theorem app_list (a b:Str):(a++b).cps.toList=a.cps.toList++b.cps.toList:=by
 show (a.cps++b.cps).toList=_
 simp
theorem app_len (a b:Str):(a++b).length=a.length+b.length:=by
 show (a.cps++b.cps).size=_
 rw [Array.size_append];rfl
end Vm
namespace L3
open PySem PySem.Spec PyProof.Rows L2
open Builtin Builtin.Str
section
variable {X:Cx}
theorem vals_values:∀ l:List (Str × Tok),Vals ((l.map (·.1)).map V.str) (strValues l)
 | []=>.nil
 | (z,t) :: r=>.cons ⟨t,rfl⟩ (vals_values r)
end
end L3
namespace Vm
open PySem L2 L3
end Vm
namespace L3
open PySem PySem.Spec PyProof.Rows L2
abbrev fra (l:List Env):List Addr:=L2.frs l
structure Exc (h:Heap) (e T C:Addr) (fl:Value):Prop where
 ob:∃ vs,h.get? e=some { cls:=.ref C,data:=.fields vs }/\vs[1]?=some (.ref T)
 tb:∃ oT ts,h.get? T=some oT/\oT.data=.fields ts/\ts[3]?=some fl
 ne:T ≠ e
structure Kpt (S fs:List Addr) (h h':Heap):Prop where
 keep:∀ b o,h.get? b=some o->b ∉ S->b ∉ fs->h'.get? b=some o
 slot:∀ b o,h.get? b=some o->b ∉ S->b ∈ fs->∃ sl,h'.get? b=some { o with slots:=sl }
theorem Kpt.any {S fs:List Addr} {h h':Heap} (a:Kpt S fs h h') {b:Addr} {o:Obj} (e:h.get? b=some o) (n:b ∉ S):∃ sl,h'.get? b=some { o with slots:=sl }:=by
 by_cases m:b ∈ fs
 ·exact a.slot b o e n m
 ·exact ⟨o.slots,a.keep b o e n m⟩
section
variable {M:Model} {A:Around} {E:Value->Shared->Prop} {s:Shared}
theorem not_frame {base:Heap} {l:List Env} {b:Addr} {o:Obj} {vs:Array Value} (hl:s.heap.FunFrames base l) (e:s.heap.get? b=some o) (d:o.data=.fields vs):b ∉ fra l:=fun z=>by
 obtain ⟨_,o',e',d'⟩:=hl.mem z
 rw [e] at e'
 cases e'
 exact d' vs d
theorem entry_new {base:Heap} {env:Env} {outer:List Env} {L e:Addr} {c head:Value} {vs:Array Value} {hadNext:Bool} {Q:Unit->Shared->Prop} (hfr:A.frames=some (env :: outer)) (hl:s.heap.FunFrames base (env :: outer)) (hf:env.frame=some L)
  (he:s.heap.get? e=some { cls:=c,data:=.fields vs }) (hz:1 < vs.size)
  (hQ:∀ h' T,s.heap.objs.size<=T->h'.get? e=some { cls:=c,data:=.fields (vs.setIfInBounds 1 (.ref T)) }->(∃ oT ts,h'.get? T=some oT/\oT.data=.fields ts/\ts[3]?=some (rawInt L))->Kpt [e] (fra (env :: outer)) s.heap h'->Q () { s with heap:=h' }) :
  wpAny M A (do let a <-frameOf env;let pl <-entryPlaceOf L hadNext;let b <-EntryCells.newEntry head a .none (rawInt L) .none pl;setField (.ref e) 1 b) Q E s:=by
 have nfr:e ∉ fra (env :: outer):=not_frame hl he rfl
 refine wpAny_bind (wpAny_frameOf_fun hfr hl hf fun k1 so=>?_)
 refine wpAny_bind (wpAny_entryPlaceOf fun pl ip=>?_)
 unfold EntryCells.newEntry newFields
 refine wpAny_bind (wpAny_newObj_type ?_ (ip.sizeOk5 _ _ _ _ _))
 generalize hob:({ cls:=.type "traceback",dict:=none,data:=.fields ([head,.ref L,.none,rawInt L,.none]++(if pl.isEmpty then List.replicate 6 Value.none else pl)).toArray }:Obj)=ob
 have e1:k1.get? e=some { cls:=c,data:=.fields vs }:=(so.2.1 e nfr).trans he
 have e2:=Heap.get?_push_of_some (h:=k1) ob e1
 have nT:k1.objs.size ≠ e:=Nat.ne_of_gt (Heap.lt_size e1)
 refine wpAny_setField e2 rfl hz (hQ _ k1.objs.size (Nat.le_of_eq so.1.symm) ?_ ?_ ⟨fun b o eb nb mb=>?_,fun b o eb nb mb=>?_⟩)
 ·exact Heap.get?_update_self _ e2 rfl
 ·refine ⟨ob,([head,.ref L,.none,rawInt L,.none]++(if pl.isEmpty then List.replicate 6 Value.none else pl)).toArray,?_,by rw [<-hob],by simp⟩
  rw [Heap.get?_update_other _ _ (Ne.symm nT)]
  exact Heap.get?_push_size k1 (by rw [<-hob];rfl)
 ·have nb':b ≠ e:=fun z=>nb (by rw [z];exact List.mem_cons_self)
  rw [Heap.get?_update_other _ _ (Ne.symm nb')]
  exact Heap.get?_push_of_some _ ((so.2.1 b mb).trans eb)
 ·have nb':b ≠ e:=fun z=>nb (by rw [z];exact List.mem_cons_self)
  obtain ⟨sl,q⟩:=so.2.2 b o eb
  exact ⟨sl,by rw [Heap.get?_update_other _ _ (Ne.symm nb')];exact Heap.get?_push_of_some _ q⟩
theorem set1 {vs:Array Value} {v:Value} (h:1 < vs.size):(vs.setIfInBounds 1 v)[1]?=some v:=by simp [h]
theorem note_new {base:Heap} {env:Env} {outer:List Env} {L e C:Addr} {vs:Array Value} {Q:Unit->Shared->Prop} (hfr:A.frames=some (env :: outer)) (hl:s.heap.FunFrames base (env :: outer)) (hf:env.frame=some L)
  (he:s.heap.get? e=some { cls:=.ref C,data:=.fields vs }) (h1:vs[1]?=some .none)
  (hQ:∀ h' T,s.heap.objs.size<=T->Exc h' e T C (rawInt L)->Kpt [e] (fra (env :: outer)) s.heap h'->Q () { s with heap:=h' }):wpAny M A (noteFrame (.ref e) env) Q E s:=by
 have hz:1 < vs.size:=(Array.getElem?_eq_some_iff.mp h1).1
 unfold noteFrame
 simp only [hf]
 refine wpAny_bind (wpAny_field he rfl h1 ?_)
 rw [if_neg (by decide)]
 refine entry_new hfr hl hf he hz fun h' T hT ho ht kp=>hQ h' T hT ⟨⟨_,ho,set1 hz⟩,ht,fun z=>?_⟩ kp
 rw [z] at hT
 exact absurd (Heap.lt_size he) (Nat.not_lt.mpr hT)
theorem flight_set {e T C:Addr} {fl:Value} {to:Option Addr} {Q:Unit->Shared->Prop} (x:Exc s.heap e T C fl)
  (hQ:∀ h',Exc h' e T C (to.elim Value.none fun f=>rawInt f)->(∀ b,b ≠ T->h'.get? b=s.heap.get? b)->h'.objs.size=s.heap.objs.size->Q () { s with heap:=h' }):wpAny M A (setFlight (.ref e) to) Q E s:=by
 obtain ⟨⟨vs,he,h1⟩,⟨oT,ts,hT,dT,h3⟩,ne⟩:=x
 have hz:3 < ts.size:=(Array.getElem?_eq_some_iff.mp h3).1
 unfold setFlight
 refine wpAny_bind (wpAny_field he rfl h1 ?_)
 rw [if_pos (show (Value.ref T != Value.none)=true by simp)]
 have oth:∀ b,b ≠ T->(s.heap.update T (Obj.mapFields (·.setIfInBounds 3 (to.elim Value.none fun f=>rawInt f)))).get? b=s.heap.get? b:=fun b hb=>Heap.get?_update_other _ _ (Ne.symm hb)
 refine wpAny_setField hT dT hz (hQ _ ⟨⟨vs,(oth e (Ne.symm ne)).trans he,h1⟩,⟨_,_,Heap.get?_update_self _ hT (Obj.isFreed_of_fields (Obj.data_mapFields dT _)),Obj.data_mapFields dT _,by simp [hz]⟩,ne⟩ oth (Heap.size_after_update ..))
end
section
variable {M:Model} {A:Around} {E:Value->Shared->Prop}
end
section
variable {P:Program} {w:World} {H H':Hp} {h h1 h2:Heap} {fs fs' S ex:List Addr}
theorem objOk_there {a:Addr} {o:HO} (x:ObjOk P w H h a o):∃ ob,h.get? a=some ob:=by
 cases o with
 | lst xs=>obtain ⟨_,_,_,_,e⟩:=x;exact ⟨_,e⟩
 | tup xs=>obtain ⟨_,_,_,ob,e,_⟩:=x;exact ⟨_,e⟩
 | dK kvs=>obtain ⟨_,_,_,_,o,_,_,e,_⟩:=x;exact ⟨_,e⟩
 | dT kvs=>exact False.elim x
 | set S n=>obtain ⟨o,_,_,_,e,_⟩:=x;exact ⟨_,e⟩
 | ins C dx f=>obtain ⟨_,_,_,e,_⟩:=x;exact ⟨_,e⟩
 | own y=>exact x
 | xd f=>obtain ⟨_,⟨_,_,_,e,_⟩,_⟩:=x;exact ⟨_,e⟩
 | rng lo hi=>obtain ⟨_,_,_,e⟩:=x;exact ⟨_,e⟩
 | frz ob u=>exact ⟨_,x.1⟩
 | tbl ps=>exact ⟨_,show h.get? a=some _ from x⟩
 | met f y=>exact ⟨_,show h.get? a=some _ from x⟩
 | ext φ=>exact x.2.1
theorem hok_none (k:HOk P w H h) {a:Addr} (e:h.get? a=none):H a=none:=by
 cases q:H a with
 | none=>rfl
 | some o=>
  obtain ⟨ob,z⟩:=objOk_there (k a o q)
  rw [e] at z
  cases z
theorem un_kpt (u:Un fs ex H H' h h1) (k:Kpt S fs' h1 h2) (hS:∀ b ∈ S,h.get? b=none) (hf:∀ b ∈ fs',b ∈ fs\/h.get? b=none):Un fs ex H H' h h2 where
 keep:=fun b o e n hb hx=>k.keep b o (u.keep b o e n hb hx) (fun z=>by rw [hS b z] at e;cases e) fun z=>by
  rcases hf b z with q | q
  ·exact hb q
  ·rw [q] at e;cases e
 slot:=fun b o e n hb hx=>by
  obtain ⟨sl,q⟩:=u.slot b o e n hb hx
  obtain ⟨sl',q'⟩:=k.any q fun z=>by rw [hS b z] at e;cases e
  exact ⟨sl',q'⟩
 free:=u.free
 there:=fun b o e hx=>by
  obtain ⟨o',q⟩:=u.there b o e hx
  obtain ⟨sl,q'⟩:=k.any q fun z=>by rw [hS b z] at e;cases e
  exact ⟨_,q'⟩
 tups:=u.tups
 frzs:=u.frzs
 tbls:=u.tbls
theorem hok_kpt (x:HOk P w H h1) (k:Kpt S fs' h1 h2) (hS:∀ b ∈ S,H b=none) (hf:∀ b ∈ fs',H b=none):HOk P w H h2:=fun b o e=>
 (x b o e).stay (fun c v hc q=>by
  have hn:H c ≠ none:=by
   rcases hc with z | z
   ·rw [z,e];exact fun z=>nomatch z
   ·rw [z];exact fun z=>nomatch z
  exact k.keep c v q (fun z=>hn (hS c z)) fun z=>hn (hf c z)) (fun _ q=>q) fun _ _ q=>q
end
section
variable {X:Cx} {pins:List (Addr × Obj)} {σ:L2.St} {H:Hp} {s:Shared} {S:List Addr}
theorem inv_track {a:Addr} {o:HO} (I:Inv X pins σ H s) (h0:X.s₀.heap.get? a=none) (hl:a ≠ X.env.locals) (hc:∀ x c,X.env.cells.lookup x=some c->c ≠ a) (hp:∀ p ∈ X.pn++pins,p.1 ≠ a) (hn:H a=none)
  (ok:ObjOk X.prog X.w (upd H a o) s.heap a o):Inv X pins σ (upd H a o) s where
 ok:=I.ok
 os:=I.os
 bare:=I.bare
 base:=⟨I.base.keep,I.base.slot,fun b ob e n hx=>by rw [upd_ne fun z=>by rw [z,h0] at e;cases e];exact I.base.free b ob e n hx,I.base.there,
  fun b xs e=>by have q:=I.base.tups b xs e;rw [upd_ne (ne_of_none q hn)];exact q,fun b ob u e=>by have q:=I.base.frzs b ob u e;rw [upd_ne (ne_of_none q hn)];exact q,
  fun b ps e=>by obtain ⟨m,q⟩:=I.base.tbls b ps e;exact ⟨m,by rw [upd_ne (ne_of_none q hn)];exact q⟩⟩
 loc:=I.loc
 cell:=I.cell
 free:=by rw [upd_ne (Ne.symm hl)];exact I.free
 freeC:=fun x c e=>by rw [upd_ne (hc x c e)];exact I.freeC x c e
 pin:=fun p hp'=>by
  obtain ⟨e,n,r⟩:=I.pin p hp'
  exact ⟨e,by rw [upd_ne (hp p hp')];exact n,r⟩
 hok:=fun b u e=>by
  by_cases hb:b=a
  ·subst hb;rw [upd_same] at e;cases e;exact ok
  ·rw [upd_ne hb] at e
   exact (I.hok b u e).stay (fun _ _ _ q=>q) (fun c q=>by rw [upd_ne (ne_of_none q hn)];exact q) fun c xs q=>by rw [upd_ne (ne_of_none q hn)];exact q
 len:=I.len
end
def CXv (P:Program) (w:World):CXT:=fun outer H s E e s'=>∃ (ea T C:Addr) (H':Hp),e=.ref ea/\Exc s'.heap ea T C .none/\s.heap.get? ea=none/\s.heap.get? T=none/\H' ea=none/\H' T=none ∧
 s'.os=s.os/\AllBare s'.gens/\Un (frs outer) [] H H' s.heap s'.heap/\HOk P w H' s'.heap/\E (.ref C) none H'
def Lands (X:Cx) (E:XK):Prop:=∀ (pins:List (Addr × Obj)) (σ:L2.St) (H:Hp) (s:Shared) (h':Heap) (ea C:Addr) (vs:Array Value),Inv X pins σ H s->(∀ b o,s.heap.get? b=some o->h'.get? b=some o)->s.heap.get? ea=none →
 h'.get? ea=some { cls:=.ref C,data:=.fields vs }->vs[1]?=some .none->E (.ref C) none H->X.xe (.ref ea) { s with heap:=h' }
section
variable {P:Program} {w:World} {K:PySem.W.Frag} {mg:Str->Option Value} {base:Heap} {N:List Str} {qual:Str} {scope:Scope} {f:Addr} {cd:Value} {A:Around} {outer:List Env} {s0:Shared} {H0:Hp} {E:XK}
theorem old_none {X:Cx} {pins:List (Addr × Obj)} {σ:L2.St} {H:Hp} {s:Shared} (I:Inv X pins σ H s) (hex:X.ex=[]) {b:Addr} (e:s.heap.get? b=none):X.s₀.heap.get? b=none:=by
 cases q:X.s₀.heap.get? b with
 | none=>rfl
 | some o=>
  obtain ⟨o',z⟩:=I.base.there b o q (by rw [hex];simp)
  rw [e] at z
  cases z
theorem size_none {h:Heap} {b:Addr} (e:h.objs.size<=b):h.get? b=none:=Heap.get?_none_of_le e
theorem lands_def:Lands (cxOf (CXv P w) P w K mg base N qual scope f cd A outer s0 H0 E) E:=by
 intro pins σ H s h' ea C vs I kp new ho h1 hE
 have I':=I.kept (t':=s.toks) (h':=h') kp
 have st:=I'.stack
 show wpAny (model P w) (A.deeper (envOfC qual scope s0.heap.objs.size f cd)) (leaving (envOfC qual scope s0.heap.objs.size f cd) (.ref ea)) _ _ { s with heap:=h' }
 unfold leaving
 refine wpAny_bind (note_new (s:={ s with heap:=h' }) (base:=base) (outer:=outer) (L:=s0.heap.objs.size) I'.ok.frames st rfl ho h1 fun k1 T hT x1 kp1=>?_)
 refine flight_set (to:=none) x1 fun k2 x2 oth sz=>?_
 have nT:∀ b o,h'.get? b=some o->b ≠ T:=fun b o e z=>by
  rw [z] at e
  exact absurd (Heap.lt_size e) (Nat.not_lt.mpr hT)
 have kp2:Kpt [ea] (frs ((cxOf (CXv P w) P w K mg base N qual scope f cd A outer s0 H0 E).stack)) h' k2:=⟨fun b o e n m=>(oth b (nT b o e)).trans (kp1.keep b o e n m),fun b o e n m=>by
  obtain ⟨sl,q⟩:=kp1.slot b o e n m
  exact ⟨sl,(oth b (nT b o e)).trans q⟩⟩
 have n0:s0.heap.get? ea=none:=old_none I rfl new
 have hne:H ea=none:=hok_none I.hok new
 have n1:h'.get? T=none:=size_none hT
 have hnT:H T=none:=hok_none I'.hok n1
 have hs:∀ b ∈ [ea],s0.heap.get? b=none:=fun b hb=>by rw [List.mem_singleton.mp hb];exact n0
 refine ⟨ea,T,C,H,rfl,x2,n0,old_none I' rfl n1,hne,hnT,I.os,I.bare,un_kpt I'.base kp2 hs fun b hb=>?_,hok_kpt I'.hok kp2 (fun b hb=>by rw [List.mem_singleton.mp hb];exact hne) I'.stkFree,hE⟩
 rcases List.mem_cons.mp (I'.stkSub b hb) with z | z
 ·exact .inr (by rw [z];exact size_none I.ok.above)
 ·exact .inl z
theorem Fun.okX {x:Str} {st:Stmt} {f:Addr} {fd:FuncData} {N ps:List Str} {k:Nat} {sp:Sp} (F:Fun K x x st f fd) (S:FnScope N ps (defScope st)) (len:∀ vs H Q E,sp vs H Q E->vs.length=ps.length)
  (hbody:∀ (cdv:Value) (A:Around) (outer:List Env) (s:Shared) (H:Hp) (vs:List V) (Q:VK) (E:XK),Room k (A.deeper (envOfC x (defScope st) s.heap.objs.size f cdv))->sp vs H Q E →
   ∃ t,PSs (cxOf (CXv P w) P w K mg base N x (defScope st) f cdv A outer s H E) (defBody st) t/\t { nx:=fun _ H'=>Q .non H',rt:=Q } (start N vs) H):FnOk P w K mg base (CXv P w) (k+1) f fd ps sp:=by
 obtain ⟨oc,od,kV,doc,pm,an,cdv,ct,osl,rfl,lk,hcd⟩:=F.ex
 exact fn_of lk hcd S len fun A outer s H vs Q E hr hsp=>hbody cdv A outer s H vs Q E hr hsp
def SpX (sp:Sp):Sp:=fun vs H Q2 E2=>∃ (Q:VK) (E:XK),(∀ v H',Rst H H' (Q v)->Q2 v H')/\(∀ c o H',Rst H H' (E c o)->E2 c o H')/\sp vs H Q E
theorem FnOk.rstX {k:Nat} {f:Addr} {fd:FuncData} {ps:List Str} {sp:Sp} (F:FnOk P w K mg base (CXv P w) k f fd ps (SpX sp)):FnOk P w K mg base (CXv P w) k f fd ps sp:=
 ⟨fun vs H Q E h=>F.len vs H (fun v H'=>Rst H H' (Q v)) (fun c o H'=>Rst H H' (E c o)) ⟨Q,E,fun _ _ z=>z,fun _ _ _ z=>z,h⟩,fun A outer s H args us vs Q E hr he hb hv hs=>
  codeAny_mono (F.run A outer s H args us vs (fun v H'=>Rst H H' (Q v)) (fun c o H'=>Rst H H' (E c o)) hr he hb hv ⟨Q,E,fun _ _ z=>z,fun _ _ _ z=>z,hs⟩) fun r s' hq=>by
   cases r with
   | error e=>
    obtain ⟨ea,T,C,H',e0,x,n1,n2,t1,t2,os,bare,un,hok,Hr,s1,s2,hn,q⟩:=hq
    exact ⟨ea,T,C,Hr,e0,x,n1,n2,s2.free t1,s2.free t2,os,bare,un_rst un s1 s2,hok_rst he.hok hok s1 s2 hn,q⟩
   | ok fl=>
    cases fl with
    | ret u=>
     obtain ⟨v,H',e1,e2,e3,e4,e5,Hr,s1,s2,hn,q⟩:=hq
     exact ⟨v,Hr,e1,e2,un_rst e3 s1 s2,hok_rst he.hok e4 s1 s2 hn,e5,q⟩
    | next=>exact False.elim hq
    | brk=>exact False.elim hq
    | cont=>exact False.elim hq⟩
theorem Fun.okXR {x:Str} {st:Stmt} {f:Addr} {fd:FuncData} {N ps:List Str} {k:Nat} {sp:Sp} (F:Fun K x x st f fd) (S:FnScope N ps (defScope st)) (len:∀ vs H Q E,sp vs H Q E->vs.length=ps.length)
  (hbody:∀ (cdv:Value) (A:Around) (outer:List Env) (s:Shared) (H:Hp) (vs:List V) (Q Q2:VK) (E E2:XK),Room k (A.deeper (envOfC x (defScope st) s.heap.objs.size f cdv))->sp vs H Q E->(∀ v H',Rst H H' (Q v)->Q2 v H')->(∀ c o H',Rst H H' (E c o)->E2 c o H') →
   ∃ t,PSs (cxOf (CXv P w) P w K mg base N x (defScope st) f cdv A outer s H E2) (defBody st) t/\t { nx:=fun _ H'=>Q2 .non H',rt:=Q2 } (start N vs) H):FnOk P w K mg base (CXv P w) (k+1) f fd ps sp:=
 FnOk.rstX (Fun.okX F S (fun vs H Q2 E2 ⟨Q,E,_,_,h⟩=>len vs H Q E h) fun cdv A outer s H vs Q2 E2 hr ⟨Q,E,hq,hE,h⟩=>hbody cdv A outer s H vs Q Q2 E E2 hr h hq hE)
end
theorem exc_obj {K:PySem.W.Frag} {h:Heap} {C:Addr} {bmB:List Value} {newId:String} (X:K.In h) (q:PySem.W.excIn K C bmB newId=true) :
  ∃ bm N nm qn bs hd sn sub ab col dd k0 k1 k2 k3 k5 mN,K.lookup C=some (excClassObj nm qn C N bs bm hd sn sub ab col dd k0 k1 k2 k3 k5 newId)/\h.Ns N mN/\mN "__init__" = none/\PySem.W.tailIn K bmB bm=true:=by
 unfold PySem.W.excIn at q
 cases e1:K.lookup C with
 | none=>rw [e1] at q;cases q
 | some ob=>
  rw [e1] at q
  obtain ⟨cl,dd,dt,sl⟩:=ob
  split at q
  ·rename_i dd' cd sl' hq
   cases hq
   split at q
   ·rename_i C' bm k0 k1 k2 k3 n k5 hm hs
    simp only [Bool.and_eq_true,beq_iff_eq,Bool.not_eq_true'] at q
    obtain ⟨⟨⟨⟨⟨rfl,rfl⟩,hdel⟩,ht⟩,hok⟩,hni⟩:=q
    obtain ⟨nm,bs,mro,ns,qn,hd,sn,sub,ab,col,del⟩:=cd
    dsimp only at hm hdel hok hni
    subst hm hdel
    have hsl:sl=#[k0,k1,k2,k3,some (.builtin n),k5]:=by
     cases sl
     exact congrArg Array.mk hs
    subst hsl
    exact ⟨bm,ns,nm,qn,bs,hd,sn,sub,ab,col,dd,k0,k1,k2,k3,k5,_,rfl,.of_isNs (PySem.W.isNs_of_in X hok),PySem.W.nsMap_none_of_in X hok hni,ht⟩
   ·cases q
  ·cases q
def vmro:List Value:=[.type "ValueError",.type "Exception",.type "BaseException",.type "object"]
abbrev VEx (K:PySem.W.Frag) (C:Addr):Prop:=PySem.W.excIn K C vmro "ValueError.__new__" = true
section
variable {X:Cx} {x:Str} {C:Addr} {a:Expr} {ta:TE} {E:XK} {np cpos pos:Pos}
def tRaise (C:Addr) (ta:TE) (E:XK):TS:=fun _ σ H=>tCons ta tNil σ H fun vs H1=>vs.length<=sizeLine/\E (.ref C) none H1
theorem ps_raise (hc:X.calm=true) (hg:Gl X x) (hm:X.mg x=some (.ref C)) (hx:VEx X.K C) (L:Lands X E) (ha:PE X a ta) (hdb:(x == ("__debug__" : Str))=false:=by decide)
  (hs:starEach [a] X.env=[(false,eval a X.env)]:=by rfl) (hpl:(backTo cpos (starEach [a] X.env)).any (·.1)=false:=by rfl) :
  PS X (.Raise (some (.Call (.Name x np) [a] [] cpos)) none pos) (tRaise C ta E):=by
 intro pins s σ H D I h
 obtain ⟨bm,N,nm,qn,bs,hd,sn,sub,ab,col,dd,k0,k1,k2,k3,k5,mN,e,hN,hni,ht⟩:=exc_obj I.ok.mod.kin hx
 have T0:=PySem.W.tail_of_in I.kIn ht
 refine wpAny_Raise_call_subT (C:=C) (nm:=nm) (q:=qn) (N:=N) (bs:=bs) (bm:=bm) (hdct:=hd) (sn:=sn) (sub:=sub) (ab:=ab) (col:=col) (dd:=dd) (k0:=k0) (k1:=k1) (k2:=k2) (k3:=k3) (k5:=k5) (mN:=mN) F.excBase_ValueError (T0.hasType (by decide)) (I.ok.hd hc) hpl hni (ld_glob I hg hm ⟨rfl,?_⟩ hdb)
 have pa:PA X [a] (tCons ta tNil):=pa_cons ha pa_nil hs
 have hA:=pa cpos pins s σ H _ I h
 rw [hs] at hA ⊢
 refine Calls.evalArgs_plain (thn hA fun us s2 ⟨vs,H2,I2,r,hz,q⟩=>?_)
 refine ⟨rfl,by rw [<-r.length];exact hz,I2.kIn _ _ e,hN.keeps I2.bk,PySem.W.tail_of_in I2.kIn ht,fun h' ea hm'=>?_⟩
 obtain ⟨t,he,_,_⟩:=hm'.there
 exact L pins σ H2 s2 h' ea C _ I2 hm'.keeps hm'.new he rfl q
end
section
variable {X:Cx} {pins:List (Addr × Obj)} {σ:L2.St} {H:Hp} {s:Shared} {ea:Addr}
end
section
variable {X:Cx} {CX:CXT} {k:Nat} {f:Addr} {fd:FuncData} {ps:List Str} {sp:Sp} {fx x n c:Str} {e:Expr} {es:List Expr} {ta:TA} {p pos:Pos}
end
end L3
namespace L3
open PySem PySem.Spec PyProof.Rows L2
def EqQ (K:PySem.W.Frag) (H:Hp):Nat->V->V->Bool->Prop
 | 0,x,y,b=>flatV x=true/\flatV y=true/\b=eqV x y
 | n+1,x,y,b=>EqQ K H n x y b\/∃ (p r:Addr) (xs ys:List V) (e:Nat->Bool),x=.ref p/\y=.ref r/\((SqL K H p xs/\SqL K H r ys)\/(SqT K H p xs/\SqT K H r ys)) ∧
   (∀ (i:Nat) (x y:V),xs[i]?=some x->ys[i]?=some y->EqQ K H n x y (e i))/\b=(decide (xs.length=ys.length) && (List.range xs.length).all e)
def EqS (K:PySem.W.Frag) (H:Hp) (n:Nat) (x y:V) (b:Bool):Prop:=∃ (p r:Addr) (xs ys:List V) (e:Nat->Bool),x=.ref p/\y=.ref r/\((SqL K H p xs/\SqL K H r ys)\/(SqT K H p xs/\SqT K H r ys)) ∧
   (∀ (i:Nat) (x y:V),xs[i]?=some x->ys[i]?=some y->EqQ K H n x y (e i))/\b=(decide (xs.length=ys.length) && (List.range xs.length).all e)
theorem EqQ.flat {K:PySem.W.Frag} {H:Hp} {x y:V} (hx:flatV x=true) (hy:flatV y=true):∀ n,EqQ K H n x y (eqV x y)
 | 0=>⟨hx,hy,rfl⟩
 | n+1=>.inl (EqQ.flat hx hy n)
theorem eqV_self {x:V} (h:flatV x=true):eqV x x=true:=by
 cases x with
 | non=>rfl
 | bl b=>show (b == b)=true;simp
 | int b=>show (b == b)=true;simp
 | str b=>show (b == b)=true;simp
 | _=>exact absurd (show false=true from h) Bool.false_ne_true
theorem EqS.strs {K:PySem.W.Frag} {H:Hp} {p r:Addr} {xs ys:List Str} (h:(SqL K H p (xs.map V.str)/\SqL K H r (ys.map V.str))\/(SqT K H p (xs.map V.str)/\SqT K H r (ys.map V.str))):EqS K H 0 (.ref p) (.ref r) (decide (xs=ys)):=by
 refine ⟨p,r,_,_,fun i=>decide (xs[i]?=ys[i]?),rfl,rfl,h,fun i x y hx hy=>?_,?_⟩
 ·rw [List.getElem?_map] at hx hy
  cases ex:xs[i]? with
  | none=>rw [ex] at hx;cases hx
  | some a=>
   cases ey:ys[i]? with
   | none=>rw [ey] at hy;cases hy
   | some b=>
    rw [ex] at hx;rw [ey] at hy
    cases hx;cases hy
    refine ⟨rfl,rfl,?_⟩
    show _=(a == b)
    rw [Bool.eq_iff_iff,decide_eq_true_eq,ex,ey];simp
 ·rw [List.length_map,List.length_map,Bool.eq_iff_iff,decide_eq_true_eq,Bool.and_eq_true,decide_eq_true_eq,List.all_eq_true]
  constructor
  ·rintro rfl
   exact ⟨rfl,fun i _=>decide_eq_true rfl⟩
  ·rintro ⟨hl,ha⟩
   refine List.ext_getElem? fun i=>?_
   by_cases hi:i < xs.length
   ·exact of_decide_eq_true (ha i (List.mem_range.mpr hi))
   ·rw [List.getElem?_eq_none (by omega),List.getElem?_eq_none (by omega)]
section
variable {X:Cx} {pins:List (Addr × Obj)} {σ:L2.St} {H:Hp} {s:Shared}
theorem eqq_self (I:Inv X pins σ H s):∀ {n:Nat} {x:V} {b:Bool},EqQ X.K H n x x b->b=true
 | 0,x,b,h=>by
  obtain ⟨h1,_,e⟩:=h
  rw [e];exact eqV_self h1
 | n+1,x,b,h=>by
  rcases h with h | ⟨p,r,xs,ys,e,e1,e2,hq,he,rfl⟩
  ·exact eqq_self I h
  ·rw [e1] at e2;cases e2
   have exy:xs=ys:=by
    rcases hq with ⟨a,c⟩ | ⟨a,c⟩
    ·exact I.list_inj a c
    ·exact I.tuple_inj a c
   subst exy
   rw [decide_eq_true rfl,Bool.true_and,List.all_eq_true]
   intro i hi
   have hlt:=List.mem_range.mp hi
   exact eqq_self I (he i xs[i] xs[i] (List.getElem?_eq_getElem hlt) (List.getElem?_eq_getElem hlt))
theorem vals_at {xs:List V} {us:List Value} (r:Vals xs us) {j:Nat} (h:j < us.length):∃ x,xs[j]?=some x/\RelV x us[j]:=by
 have hx:j < xs.length:=by rw [r.length];exact h
 obtain ⟨u,e,q⟩:=r.get (List.getElem?_eq_getElem hx)
 rw [List.getElem?_eq_getElem h] at e
 cases e
 exact ⟨_,List.getElem?_eq_getElem hx,q⟩
theorem rng_min {a b:Nat} {e:Nat->Bool}:((List.range (min a b)).all e && a == b)=(decide (a=b) && (List.range a).all e):=by
 by_cases h:a=b
 ·subst h;simp
 ·simp [h]
theorem eqs_rc {n:Nat} {A:Around} (I:Inv X pins σ H s) (hu:A.units+1 < cLine) (ih:∀ (x y:V) (b:Bool) (u v:Value),RelV x u->RelV y v->EqQ X.K H n x y b->SeqAt.EqAt A.in1 s u v b)
  {p r:Addr} {xs ys:List V} {e:Nat->Bool} (hq:(SqL X.K H p xs/\SqL X.K H r ys)\/(SqT X.K H p xs/\SqT X.K H r ys)) (he:∀ (i:Nat) (x y:V),xs[i]?=some x->ys[i]?=some y->EqQ X.K H n x y (e i)) :
  SeqAt.RcAt A s (.ref p) (.ref r) (decide (xs.length=ys.length) && (List.range xs.length).all e):=by
 have hu':A.units < cLine:=by omega
 rcases hq with ⟨a,c⟩ | ⟨a,c⟩
 ·obtain ⟨is,r1,p1,z1⟩:=I.list a
  obtain ⟨js,r2,p2,z2⟩:=I.list c
  have l1:=r1.length
  have l2:=r2.length
  by_cases hl:xs.length=ys.length
  ·rw [decide_eq_true hl,Bool.true_and]
   have q:=SeqAt.RcAt.lists (e:=e) p1.isList p2.isList (by rw [List.size_toArray,List.size_toArray];omega) hu' fun j h1 h2=>by
    rw [List.size_toArray] at h1 h2
    obtain ⟨x,ex,rx⟩:=vals_at r1 h1
    obtain ⟨y,ey,ry⟩:=vals_at r2 h2
    rw [List.getElem_toArray,List.getElem_toArray]
    exact ih x y _ _ _ rx ry (he j x y ex ey)
   rw [List.size_toArray,<-l1] at q
   exact q
  ·rw [decide_eq_false hl,Bool.false_and]
   exact SeqAt.RcAt.lists_lengths p1.isList p2.isList (by rw [List.size_toArray,List.size_toArray];simp;omega) hu'
 ·obtain ⟨is,r1,p1,z1⟩:=I.tuple a
  obtain ⟨js,r2,p2,z2⟩:=I.tuple c
  have l1:=r1.length
  have l2:=r2.length
  have q:=SeqAt.RcAt.tuples (e:=e) p1 p2 hu' fun j h1 h2=>by
   rw [List.size_toArray] at h1 h2
   obtain ⟨x,ex,rx⟩:=vals_at r1 h1
   obtain ⟨y,ey,ry⟩:=vals_at r2 h2
   rw [List.getElem_toArray,List.getElem_toArray]
   exact ih x y _ _ _ rx ry (he j x y ex ey)
  rw [List.size_toArray,List.size_toArray,<-l1,<-l2,rng_min] at q
  exact q
theorem eqs_ne {n:Nat} {A:Around} (I:Inv X pins σ H s) (hu:A.units+1 < cLine) (ih:∀ (x y:V) (b:Bool) (u v:Value),RelV x u->RelV y v->EqQ X.K H n x y b->SeqAt.EqAt A.in1 s u v b)
  {p r:Addr} {xs ys:List V} {e:Nat->Bool} (hq:(SqL X.K H p xs/\SqL X.K H r ys)\/(SqT X.K H p xs/\SqT X.K H r ys)) (he:∀ (i:Nat) (x y:V),xs[i]?=some x->ys[i]?=some y->EqQ X.K H n x y (e i)) :
  SeqAt.RcNeAt A s (.ref p) (.ref r) (!(decide (xs.length=ys.length) && (List.range xs.length).all e)):=by
 have hu':A.units < cLine:=by omega
 rcases hq with ⟨a,c⟩ | ⟨a,c⟩
 ·obtain ⟨is,r1,p1,z1⟩:=I.list a
  obtain ⟨js,r2,p2,z2⟩:=I.list c
  have l1:=r1.length
  have l2:=r2.length
  by_cases hl:xs.length=ys.length
  ·rw [decide_eq_true hl,Bool.true_and]
   have q:=SeqAt.RcNeAt.lists (e:=e) p1.isList p2.isList (by rw [List.size_toArray,List.size_toArray];omega) hu' fun j h1 h2=>by
    rw [List.size_toArray] at h1 h2
    obtain ⟨x,ex,rx⟩:=vals_at r1 h1
    obtain ⟨y,ey,ry⟩:=vals_at r2 h2
    rw [List.getElem_toArray,List.getElem_toArray]
    exact ih x y _ _ _ rx ry (he j x y ex ey)
   rw [List.size_toArray,<-l1] at q
   exact q
  ·rw [decide_eq_false hl,Bool.false_and]
   exact SeqAt.RcNeAt.lists_lengths p1.isList p2.isList (by rw [List.size_toArray,List.size_toArray];simp;omega) hu'
 ·obtain ⟨is,r1,p1,z1⟩:=I.tuple a
  obtain ⟨js,r2,p2,z2⟩:=I.tuple c
  have l1:=r1.length
  have l2:=r2.length
  have q:=SeqAt.RcNeAt.tuples (e:=e) p1 p2 hu' fun j h1 h2=>by
   rw [List.size_toArray] at h1 h2
   obtain ⟨x,ex,rx⟩:=vals_at r1 h1
   obtain ⟨y,ey,ry⟩:=vals_at r2 h2
   rw [List.getElem_toArray,List.getElem_toArray]
   exact ih x y _ _ _ rx ry (he j x y ex ey)
  rw [List.size_toArray,List.size_toArray,<-l1,<-l2,rng_min] at q
  exact q
theorem eqq_at (I:Inv X pins σ H s):∀ {n:Nat} {A:Around} {x y:V} {b:Bool} {u v:Value},A.units+n < cLine->RelV x u->RelV y v->EqQ X.K H n x y b->SeqAt.EqAt A s u v b
 | 0,A,x,y,b,u,v,hu,rx,ry,h=>by
  obtain ⟨h1,h2,e⟩:=h
  rw [e];exact eqAt_V rx ry h1 h2
 | n+1,A,x,y,b,u,v,hu,rx,ry,h=>by
  rcases h with h | ⟨p,r,xs,ys,e,rfl,rfl,hq,he,hb⟩
  ·exact eqq_at I (by omega) rx ry h
  ·cases rx;cases ry
   by_cases hp:p=r
   ·subst hp
    have:=eqq_self I (n:=n+1) (.inr ⟨p,p,xs,ys,e,rfl,rfl,hq,he,hb⟩)
    rw [this];exact SeqAt.EqAt.same _
   ·rw [hb]
    exact SeqAt.EqAt.of_refs hp (eqs_rc I (by omega) (fun x y b u v rx ry q=>eqq_at I (A:=A.in1) (by show A.units+1+n < cLine;omega) rx ry q) hq he)
theorem op_eqS (hu:X.A.units+64 < cLine):OpR X (compareOp .Eq) (fun x y H Q=>∃ n b,n<=20/\EqS X.K H n x y b/\Q (.bl b) H):=by
 intro pins s σ H x y v u Q I rx ry h
 obtain ⟨n,b,hn,⟨p,r,xs,ys,e,rfl,rfl,hq,he,rfl⟩,q⟩:=h
 cases rx;cases ry
 exact eqs_rc I (by omega) (fun x y b u v rx ry q=>eqq_at I (A:=X.A.in1) (by show X.A.units+1+n < cLine;omega) rx ry q) hq he _ _ _ _ ⟨.bl _,H,I,rfl,q⟩
theorem op_neS (hu:X.A.units+64 < cLine):OpR X (compareOp .NotEq) (fun x y H Q=>∃ n b,n<=20/\EqS X.K H n x y b/\Q (.bl (!b)) H):=by
 intro pins s σ H x y v u Q I rx ry h
 obtain ⟨n,b,hn,⟨p,r,xs,ys,e,rfl,rfl,hq,he,rfl⟩,q⟩:=h
 cases rx;cases ry
 exact eqs_ne I (by omega) (fun x y b u v rx ry q=>eqq_at I (A:=X.A.in1) (by show X.A.units+1+n < cLine;omega) rx ry q) hq he _ _ _ _ ⟨.bl _,H,I,rfl,q⟩
end
end L3
namespace L3
open PySem PySem.Spec PyProof.Rows L2 PySem.W
section
variable {M:Model} {A:Around} {E:Value->Shared->Prop} {s:Shared}
end
section
variable {prog:Program} {w:World} {A:Around} {E:Value->Shared->Prop} {s:Shared} {K:PySem.W.Frag} {x D:Addr} {ox:Obj}
end
end L3
namespace L3
open PySem PySem.Spec PyProof.Rows L2
open PySem.W in
section
variable {X:Cx}
end
section
variable {X:Cx} {K:PySem.W.Frag}
theorem ix_listK (hK:X.K=K):IxR X (rIxL K):=by subst hK;exact ix_list
theorem ix_tupK (hK:X.K=K):IxR X (rIxT K):=by subst hK;exact ix_tup
theorem call_len_seqK (hK:X.K=K):CallR X (.builtin "len") (fun xs H Q=>∃ p ys,xs=[.ref p]/\(SqL K H p ys\/SqT K H p ys)/\Q (.int ys.length) H):=by subst hK;exact call_len_seq
end
end L3
namespace Vm
open PySem PySem.Spec PyProof.Rows L2 L3
def mkS (l:List Nat):Str:=⟨l.toArray⟩
theorem mkS_list (l:List Nat):(mkS l).cps.toList=l:=mk_list l
end Vm
namespace L3
open PySem PySem.Spec PyProof.Rows L2
section
variable {X:Cx}
theorem call_int_text:CallR X (.type "int") (fun xs H Q=>∃ (z:Str) (n:Int),xs=[.str z]/\PySem.intText? z=some n/\z.length<=640/\Q (.int n) H):=by
 intro pins s σ H xs us Q I r h
 obtain ⟨z,n,rfl,hn,hl,q⟩:=h
 obtain ⟨u,rfl,t,rfl⟩:=vals1 r
 exact PySem.W.KIN.call_text hn hl ⟨.int n,H,I.tok _,⟨_,rfl⟩,q⟩
end
end L3
namespace Vm
open PySem PySem.Spec PyProof.Rows L2 L3 PySem.NumText
def figures:Str := "0123456789"
theorem figures_cps:figures.cps.toList=(List.range 10).map (48+·):=by decide +kernel
theorem mem_figures {c:Nat}:c ∈ figures.cps.toList ↔ 48<=c/\c<=57:=by
 rw [figures_cps,List.mem_map]
 constructor
 ·rintro ⟨i,hi,rfl⟩
  have:=List.mem_range.mp hi
  omega
 ·intro h
  exact ⟨c - 48,List.mem_range.mpr (by omega),by omega⟩
theorem fold_low:∀ (l:List Nat) (acc:Nat),acc * 10 ^ l.length<=l.foldl (fun acc c=>acc * 10+(c - 48)) acc
 | [],acc=>by simp
 | c :: r,acc=>by
  rw [List.foldl_cons,List.length_cons]
  refine Nat.le_trans ?_ (fold_low r _)
  rw [Nat.pow_succ,Nat.mul_comm (10 ^ r.length) 10,<-Nat.mul_assoc]
  exact Nat.mul_le_mul_right _ (by omega)
theorem fold_high:∀ (l:List Nat) (acc:Nat),(∀ c ∈ l,48<=c/\c<=57)->l.foldl (fun acc c=>acc * 10+(c - 48)) acc < (acc+1) * 10 ^ l.length
 | [],acc,_=>by simp
 | c :: r,acc,h=>by
  rw [List.foldl_cons,List.length_cons]
  refine Nat.lt_of_lt_of_le (fold_high r _ fun d hd=>h d (List.mem_cons_of_mem _ hd)) ?_
  rw [Nat.pow_succ,Nat.mul_comm (10 ^ r.length) 10,<-Nat.mul_assoc]
  have:=h c List.mem_cons_self
  exact Nat.mul_le_mul_right _ (by omega)
theorem val_low {c:Nat} {r:List Nat} (h:48 < c):10 ^ r.length<=digitsVal (c :: r):=by
 unfold digitsVal
 rw [List.foldl_cons]
 refine Nat.le_trans ?_ (fold_low r _)
 calc 10 ^ r.length=1 * 10 ^ r.length:=(Nat.one_mul _).symm
  _<=_:=Nat.mul_le_mul_right _ (by omega)
theorem val_high {l:List Nat} (h:∀ c ∈ l,48<=c/\c<=57):digitsVal l < 10 ^ l.length:=by
 have:=fold_high l 0 h
 unfold digitsVal
 omega
def numS (n:Int):Str:=Str.ofString (toString n)
theorem numS_list (m:Nat):(numS (m:Int)).cps.toList=(Nat.toDigits 10 m).map Char.toNat:=PySem.W.KIN.signs_num m
theorem numS_digits (m:Nat):∀ c ∈ (numS (m:Int)).cps.toList,48<=c/\c<=57:=by
 intro c hc
 rw [numS_list] at hc
 obtain ⟨ch,hch,e⟩:=List.mem_map.mp hc
 rw [<-e]
 exact digit_range (Nat.isDigit_of_mem_toDigits (by decide) (by decide) hch)
theorem numS_lt (m:Nat):m < 10 ^ (numS (m:Int)).length:=by
 have h:=val_high (numS_digits m)
 rw [numS_list,PySem.W.KIN.val_back,<-numS_list,clen] at h
 exact h
theorem digits_le:∀ (k m:Nat),m < 10 ^ (k+1)->(Nat.toDigits 10 m).length<=k+1
 | 0,m,h=>by
  rw [Nat.toDigits_of_lt_base (by omega)]
  exact Nat.le_refl _
 | k+1,m,h=>by
  by_cases h9:m < 10
  ·rw [Nat.toDigits_of_lt_base h9]
   exact Nat.succ_le_succ (Nat.zero_le _)
  ·have hm:m % 10 < 10:=Nat.mod_lt m (by decide)
   have t:Nat.toDigits 10 (m / 10)++Nat.toDigits 10 (m % 10)=Nat.toDigits 10 (10 * (m / 10)+m % 10):=Nat.toDigits_append_toDigits (by decide) (by omega) hm
   rw [Nat.div_add_mod] at t
   rw [<-t,List.length_append,Nat.toDigits_of_lt_base hm]
   have h2:m / 10 < 10 ^ (k+1):=by
    rw [Nat.pow_succ] at h
    exact Nat.div_lt_of_lt_mul (by omega)
   have:=digits_le k (m / 10) h2
   show _+1<=_
   omega
theorem numS_len {n:Int} (h0:0<=n) (h1:n < 10 ^ 40):(numS n).length<=40:=by
 obtain ⟨m,rfl⟩:=Int.eq_ofNat_of_zero_le h0
 rw [<-clen,numS_list,List.length_map]
 exact digits_le 39 m (by exact_mod_cast h1)
theorem numS_pos (n:Int) (h0:0<=n):1<=(numS n).length:=by
 obtain ⟨m,rfl⟩:=Int.eq_ofNat_of_zero_le h0
 rw [<-clen,numS_list,List.length_map]
 exact toDigits_len_ge 10 m
theorem log_ok {n:Int} (h0:0<=n) (h1:n < 10 ^ 40):n.natAbs.log2 < 1920:=by
 obtain ⟨m,rfl⟩:=Int.eq_ofNat_of_zero_le h0
 rw [Int.natAbs_natCast]
 by_cases hm:m=0
 ·subst hm;decide
 ·rw [Nat.log2_lt hm]
  refine Nat.lt_of_lt_of_le (by exact_mod_cast h1:m < 10 ^ 40) ?_
  refine Nat.le_trans (show 10 ^ 40<=2 ^ 160 by decide) (Nat.pow_le_pow_right (by decide) (by decide))
def writesB (z:Str):Bool:=if z=Str.ofString "" then false else if onlyB z figures=true then decide (z=Str.ofString "0") || !decide (z.cps.toList[0]?=some 48) else false
def pnum (z:Str) (most:Int):Option Int:=if writesB z=true then (if ((digitsVal z.cps.toList:Nat):Int)<=most then some ((digitsVal z.cps.toList:Nat):Int) else none) else none
theorem only_digits {z:Str} (h:onlyB z figures=true):∀ c ∈ z.cps.toList,48<=c/\c<=57:=by
 unfold onlyB at h
 rw [List.all_eq_true] at h
 exact fun c hc=>mem_figures.mp (of_decide_eq_true (h c hc))
theorem ne_nil {z:Str} (h:z ≠ Str.ofString ""):z.cps.toList ≠ []:=fun e=>h (by
 have e2:(Str.ofString "").cps.toList=[]:=by decide +kernel
 rw [<-str_mk z,<-str_mk (Str.ofString ""),e,e2])
theorem digits_read {z:Str} (h:onlyB z figures=true) (hne:z ≠ Str.ofString "") (hl:z.length<=640):PySem.intText? z=some ((digitsVal z.cps.toList:Nat):Int):=
 intText_digits (only_digits h) (ne_nil hne) (by omega)
theorem writes_low {z:Str} (h:writesB z=true) (h2:2<=z.length):10 ^ (z.length - 1)<=digitsVal z.cps.toList:=by
 unfold writesB at h
 by_cases h0:z=Str.ofString ""
 ·rw [if_pos h0] at h;cases h
 rw [if_neg h0] at h
 by_cases h1:onlyB z figures=true
 ·rw [if_pos h1] at h
  have hd:=only_digits h1
  have hz:=clen z
  rcases Bool.or_eq_true_iff.mp h with h | h
  ·have e:=of_decide_eq_true h
   rw [e] at h2
   exact absurd h2 (by decide +kernel)
  ·cases hl:z.cps.toList with
   | nil=>exact absurd hl (ne_nil h0)
   | cons c r=>
    rw [hl] at h hd hz
    have hc:c ≠ 48:=fun e=>by rw [e] at h;simp at h
    have:=hd c List.mem_cons_self
    rw [<-hz,List.length_cons,Nat.add_sub_cancel]
    exact val_low (by omega)
 ·rw [if_neg h1] at h;cases h
theorem pnum_long {z:Str} {most:Int} {k:Nat} (hk:most < 10 ^ k) (h1:1<=k) (hl:k < z.length):pnum z most=none:=by
 unfold pnum
 by_cases h:writesB z=true
 ·rw [if_pos h,if_neg ?_]
  have:=writes_low h (by omega)
  have h3:10 ^ k<=10 ^ (z.length - 1):=Nat.pow_le_pow_right (by decide) (by omega)
  have h4:(10:Int) ^ k<=((digitsVal z.cps.toList:Nat):Int):=by exact_mod_cast Nat.le_trans h3 this
  omega
 ·rw [if_neg h]
theorem most_lt {most:Int} (h0:0<=most):most < 10 ^ (numS most).length:=by
 obtain ⟨m,rfl⟩:=Int.eq_ofNat_of_zero_le h0
 exact_mod_cast numS_lt m
def optV:Option Int->V
 | none=>.non
 | some i=>.int i
end Vm
namespace HT
open PySem PySem.Spec PyProof.Rows
section
variable {prog:Program} {w:World} {A:Around} {E:Value->Shared->Prop} {s:Shared}
theorem cut_whole {t sl:Addr} {items:Array Value} {vl vu:Value} {lo hi:Option Int} {Q:Value->Shared->Prop} (ht:IsTup s.heap t items) (hs:s.heap.IsSliceOf sl vl vu .none) (pl:IsPart vl lo) (pu:IsPart vu hi)
  (hw:sIx items.size 0 lo=0/\sIx items.size items.size hi=items.size) (h:Q (.ref t) s):wpAny (model prog w) A (getItem (.ref t) (.ref sl)) Q E s:=by
 obtain ⟨os,hos,hcs,hds⟩:=id hs
 have hTs:s.TypeIs (.ref sl) "slice" := ⟨os,hos,hcs⟩
 unfold getItem
 try with_reducible refine wpAny_holding ?_
 first | refine wpAny_bind (wpAny_pure ?_) | skip
 refine wpAny_bind (wpAny_sequenceKey ht.typeIs (by decide) ?_)
 refine wpAny_bind (wpAny_callSpecial?_slot (name:=Str.ofString "__getitem__") ht.typeIs PyProof.Rows.slot_tuple_getitem
  (wpAny_call_entry PyProof.Rows.slot_tuple_getitem ht.typeIs entry_tuple_getitem ?_ (args_tuple_getitem _ _)))
 show wpAny _ _ (Builtin.Tuple.tupleItemsOf (.ref t) >>= _) _ _ s
 refine wpAny_bind (tupleItemsOf_ ht ?_)
 refine wpAny_bind (wpAny_typeOf hTs ?_)
 rw [if_pos (by decide)]
 refine wpAny_bind (sliceApplied_gen hs pl pu ?_)
 have hyes:(((sIx items.size 0 lo:Nat):Int) == 0 && (1:Int) == 1 && (sIx items.size items.size hi - sIx items.size 0 lo) == items.size)=true:=by
  rw [hw.1,hw.2];simp
 show wpAny _ _ (if (((sIx items.size 0 lo:Nat):Int) == 0 && (1:Int) == 1 && (sIx items.size items.size hi - sIx items.size 0 lo) == items.size)=true then _ else _) _ _ s
 rw [if_pos hyes]
 unfold Builtin.Tuple.tupleIsExact
 refine wpAny_bind (wpAny_bind (wpAny_typeOf ht.typeIs (wpAny_pure ?_)))
 rw [if_pos (by decide)]
 first
  | exact wpAny_bind (wpAny_rule (wpAny_pure ⟨_,rfl,wpAny_pure h⟩))
  | exact wpAny_bind (wpAny_rule (wpAny_bind (wpAny_pure (wpAny_pure ⟨_,rfl,wpAny_pure h⟩))))
  | exact wpAny_bind (wpAny_bind (wpAny_rule (wpAny_pure (wpAny_pure ⟨_,rfl,wpAny_pure h⟩))))
end
end HT
namespace L3
open PySem PySem.Spec PyProof.Rows L2
section
variable {X:Cx}
def rSlTA (K:PySem.W.Frag):V->Option Int->Option Int->Hp->VK->Prop:=fun x lo hi H Q=>∃ (a:Addr) (xs:List V),x=.ref a/\SqT K H a xs ∧
 ((HT.sIx xs.length 0 lo=0/\HT.sIx xs.length xs.length hi=xs.length)->Q (.ref a) H)/\(¬ (HT.sIx xs.length 0 lo=0/\HT.sIx xs.length xs.length hi=xs.length)->∀ p,H p=none->Q (.ref p) (upd H p (.tup (cutV xs lo hi))))
theorem sl_tupA:SlR X (rSlTA X.K):=by
 intro pins s σ H x v vl vu lo hi sl Q I rx hs pl pu h
 obtain ⟨a,xs,rfl,hx,q1,q2⟩:=h
 by_cases hw:HT.sIx xs.length 0 lo=0/\HT.sIx xs.length xs.length hi=xs.length
 ·cases rx
  obtain ⟨its,r,ht,hz⟩:=I.tuple hx
  have hlen:its.toArray.size=xs.length:=by rw [List.size_toArray];exact r.length.symm
  refine ⟨"tuple",_,PyProof.Rows.slot_tuple_getitem.lookup,ht.typeIs,?_⟩
  exact HT.cut_whole ht hs pl pu (by rw [hlen];exact hw) ⟨.ref a,H,I,rfl,q1 hw⟩
 ·exact sl_tup pins s σ H _ v vl vu lo hi sl Q I rx hs pl pu ⟨a,xs,rfl,hx,hw,q2 hw⟩
end
end L3
namespace Vm
open PySem PySem.Spec PyProof.Rows L2 L3
theorem iteK {c A B:Prop} [Decidable c] (h:¬ c) (hb:B):if decide c=true then A else B:=by rw [decide_eq_false h];exact hb
theorem iteY {c A B:Prop} [Decidable c] (h:c) (ha:A):if decide c=true then A else B:=by rw [decide_eq_true h];exact ha
inductive Sk where
 | keep | lose | twice | swap | turn (w:Str) | add (w:Str) | skip (m:Nat)
def stepV:Sk->List V
 | .keep=>[.str (Str.ofString "keep")]
 | .lose=>[.str (Str.ofString "lose")]
 | .twice=>[.str (Str.ofString "twice")]
 | .swap=>[.str (Str.ofString "swap")]
 | .turn w=>[.str (Str.ofString "turn"),.str w]
 | .add w=>[.str (Str.ofString "add"),.str w]
 | .skip m=>[.str (Str.ofString "skip"),.int (m:Nat)]
def okS:Sk->Prop
 | .skip m=>1<=m/\m<=1000
 | .turn w=>Good w
 | .add w=>Good w
 | _=>True
def skipB (es:List Str) (d m:Nat):Bool:=decide (1<=d/\d+m<=es.length) && decide (es[d+m - 1]?=es[d - 1]?)
def fitsB (es:List Str) (d:Nat) (last:Option Str):Sk->Bool
 | .keep=>decide (d < es.length)
 | .lose=>decide (d < es.length)
 | .twice=>last.isSome
 | .swap=>decide (d+1 < es.length) && !decide (es[d]?=es[d+1]?)
 | .turn w=>decide (d < es.length) && !decide (es[d]?=some w)
 | .add _=>true
 | .skip m=>skipB es d m
def wd:Sk->Nat
 | .add _=>0
 | .twice=>0
 | .swap=>2
 | .skip m=>m
 | _=>1
def gt (es:List Str) (d:Nat):Str:=(es[d]?).getD (Str.ofString "")
def ww (es:List Str) (d:Nat) (last:Option Str):Sk->List Str
 | .lose=>[]
 | .skip _=>[]
 | .turn w=>[w]
 | .add w=>[w]
 | .twice=>last.toList
 | .swap=>[gt es (d+1),gt es d]
 | .keep=>[gt es d]
def after (es:List Str) (d:Nat) (last:Option Str) (st:Sk):Option (Nat × List Str):=if fitsB es d last st=true then some (d+wd st,ww es d last st) else none
def optS:Option Str->V
 | none=>.non
 | some z=>.str z
theorem gt_of {es:List Str} {d:Nat} (h:d < es.length):es[d]?=some (gt es d):=by
 unfold gt
 rw [List.getElem?_eq_getElem h];rfl
theorem at_w {es:List Str} {d:Nat} (h:d < es.length):atI (es.map V.str) (d:Int)=some (.str (gt es d)):=atI_nat (by rw [List.getElem?_map,gt_of h];rfl)
theorem str_dec (a b:Str):decide (V.str a=V.str b)=decide (a=b):=decide_eq_decide.mpr ⟨fun e=>by injection e,fun e=>by rw [e]⟩
theorem some_dec {es:List Str} {d:Nat} (h:d < es.length) (b:Str):decide (es[d]?=some b)=decide (gt es d=b):=by
 rw [gt_of h]
 exact decide_eq_decide.mpr ⟨fun e=>Option.some.inj e,fun e=>by rw [e]⟩
theorem gt_mem {es:List Str} {d:Nat} (h:d < es.length):gt es d ∈ es:=List.mem_of_getElem? (gt_of h)
end Vm
namespace L3
open PySem PySem.Spec PyProof.Rows L2
section
variable {X:Cx} {pins:List (Addr × Obj)} {σ:L2.St} {H H':Hp} {s:Shared} {b:Addr}
end
section
variable {X:Cx} {E:XK} {e:Value} {s:Shared}
end
section
variable {P:Program} {w:World} {K:PySem.W.Frag} {mg:Str->Option Value} {base:Heap} {N:List Str} {qual:Str} {scope:Scope} {f:Addr} {cd:Value} {A:Around} {outer:List Env} {s0:Shared} {H0:Hp} {E:XK}
end
end L3
namespace L3
open PySem PySem.Spec PyProof.Rows L2
section
variable {X:Cx} {k:Nat} {f:Addr} {fd:FuncData} {ps:List Str} {sp:Sp} {fx x c:Str} {e:Expr} {es:List Expr} {ta:TA} {p pos:Pos}
end
end L3
namespace Vm
open PySem PySem.Spec PyProof.Rows L2 L3
theorem sameT {K:PySem.W.Frag} {H H':Hp} {a:Addr} {xs:List V} (S:Same H H') (h:SqT K H a xs):SqT K H' a xs:=by
 rcases h with (h | ⟨o,h⟩) | h
 ·exact .inl (.inl (S _ _ h))
 ·exact .inl (.inr ⟨o,S _ _ h⟩)
 ·exact .inr h
theorem ref_at {ts:List Addr} {i:Nat} {y:V} (hi:(ts.map V.ref)[i]?=some y):∃ t,ts[i]?=some t/\y=.ref t:=by
 rw [List.getElem?_map] at hi
 cases e:ts[i]? with
 | none=>rw [e] at hi;cases hi
 | some t=>rw [e] at hi;exact ⟨t,rfl,(Option.some.inj hi).symm⟩
theorem last_at {cp:List Str} (h:0 < cp.length):∃ l,cp.getLast?=some l/\atI (cp.map V.str) (-1)=some (.str l):=by
 obtain ⟨r,z,rfl⟩:∃ r z,cp=r++[z]:=⟨cp.dropLast,cp.getLast (by intro e;rw [e] at h;exact absurd h (by decide)),(List.dropLast_concat_getLast _).symm⟩
 refine ⟨z,by simp,?_⟩
 rw [List.map_append]
 exact atI_last _ _
end Vm
namespace L3
open PySem PySem.Spec PyProof.Rows L2
section
variable {prog:Program} {w:World}
structure Cursor (prog:Program) (w:World) (it t:Addr) (xs:Array Value) (St:Nat->Heap->Prop):Prop where
 stay:∀ i (h h':Heap),St i h->(∀ o,h.get? it=some o->h'.get? it=some o)->(∀ o,h.get? t=some o->h'.get? t=some o)->St i h'
 draw:∀ (A:Around) (E:Value->Shared->Prop) (s:Shared) (Q:Value->Shared->Prop) (i:Nat) (x:Value),St i s.heap->xs[i]?=some x->(∀ h',St (i+1) h'->Heap.SameBut it s.heap h'->Q x { s with heap:=h' })->wpAny (model prog w) A (Builtin.SmallTypes.nextOf (.ref it)) Q E s
 over:∀ (A:Around) (E:Value->Shared->Prop) (s:Shared) (Q:Value->Shared->Prop) (i:Nat),A.handled=none->St i s.heap->xs[i]?=none →
  (∀ h' e,Heap.ExtBut it s.heap h'->(∃ o,h'.get? e=some o/\o.cls=.type "StopIteration")->E (.ref e) { s with heap:=h' })->wpAny (model prog w) A (Builtin.SmallTypes.nextOf (.ref it)) Q E s
 lt:∀ i h,St i h->∃ o,h.get? it=some o/\∀ v,o.data ≠ .cell v
theorem cursor_tuple (it t:Addr) (xs:Array Value) (hne:t ≠ it):Cursor prog w it t xs (fun i h=>h.IsTupleIter it t i/\h.IsTuple t xs) where
 stay:=fun i h h' st k1 k2=>⟨st.1.at k1,by obtain ⟨o,e,r⟩:=st.2;exact ⟨o,k2 o e,r⟩⟩
 lt:=fun i h st=>by obtain ⟨o,e,_,d⟩:=st.1;exact ⟨o,e,fun v z=>by rw [d] at z;cases z⟩
 draw:=by
  intro A E s Q i x st hx hQ
  obtain ⟨hit,ht⟩:=st
  obtain ⟨o,ho,hc,hd⟩:=id hit
  obtain ⟨ot,hot,ct,nt,dt⟩:=id ht
  unfold Builtin.SmallTypes.nextOf
  refine wpAny_bind (wpAny_callSpecial?_slot (name:=Str.ofString "__next__") hit.typeIs PySem.F.slot_tuple_iterator_next (wpAny_call_entry PySem.F.slot_tuple_iterator_next hit.typeIs PySem.F.entry_tuple_iterator_next ?_ (PySem.F.args_tuple_iterator_next_1 _)))
  refine (show wpAny _ _ (field (.ref it) 0 >>= _) _ _ s from wpAny_bind (wpAny_field ho hd (x:=.ref t) rfl ?_))
  refine (show wpAny _ _ (if (Value.ref t == Value.none)=true then _ else _) _ _ s from ?_);rw [if_neg (show ¬ ((Value.ref t == Value.none)=true) by simp)]
  refine (show wpAny _ _ (field (.ref it) 1 >>= _) _ _ s from wpAny_bind (wpAny_field ho hd (x:=.int i 0) rfl ?_))
  refine (show wpAny _ _ (seqItems? (.ref t) >>= _) _ _ s from wpAny_bind (wpAny_seqItems hot dt ?_));simp only [Int.toNat_natCast,hx]
  refine wpAny_bind (wpAny_setField ho hd (by simp) (wpAny_pure ⟨x,rfl,wpAny_pure (hQ _ ⟨?_,?_⟩ (Heap.SameBut.update ..))⟩))
  ·refine ⟨_,Heap.get?_update_self _ ho (Obj.isFreed_of_fields (Obj.data_mapFields hd _)),(Obj.cls_mapFields ..).trans hc,?_⟩;rw [Obj.data_mapFields hd];simp [rawInt]
  ·exact ⟨ot,(Heap.get?_update_other _ _ (Ne.symm hne)).trans hot,ct,nt,dt⟩
 over:=by
  intro A E s Q i hh st hx hE
  obtain ⟨hit,ht⟩:=st
  obtain ⟨o,ho,hc,hd⟩:=id hit
  obtain ⟨ot,hot,ct,nt,dt⟩:=id ht
  unfold Builtin.SmallTypes.nextOf
  refine wpAny_bind (wpAny_callSpecial?_slot (name:=Str.ofString "__next__") hit.typeIs PySem.F.slot_tuple_iterator_next (wpAny_call_entry PySem.F.slot_tuple_iterator_next hit.typeIs PySem.F.entry_tuple_iterator_next ?_ (PySem.F.args_tuple_iterator_next_1 _)))
  refine (show wpAny _ _ (field (.ref it) 0 >>= _) _ _ s from wpAny_bind (wpAny_field ho hd (x:=.ref t) rfl ?_))
  refine (show wpAny _ _ (if (Value.ref t == Value.none)=true then _ else _) _ _ s from ?_);rw [if_neg (show ¬ ((Value.ref t == Value.none)=true) by simp)]
  refine (show wpAny _ _ (field (.ref it) 1 >>= _) _ _ s from wpAny_bind (wpAny_field ho hd (x:=.int i 0) rfl ?_))
  refine (show wpAny _ _ (seqItems? (.ref t) >>= _) _ _ s from wpAny_bind (wpAny_seqItems hot dt ?_));simp only [Int.toNat_natCast,hx]
  refine wpAny_bind (wpAny_rule (wpAny_bind (wpAny_setField ho hd (by simp) (wpAny_bind ?_))));simp only [newExc,newTuple]
  refine wpAny_bind (wpAny_newObj_type ?_ (by size_fits));refine wpAny_bind (m:=firstArgMember _ _) (wpAny_of_eq (a:=Value.none) (by first | rfl | (simp only [firstArgMember];rfl)) ?_)
  refine wpAny_newObj_type ?_ (by size_fits);simp only [raiseNew];refine wpAny_bind (wpAny_handled ?_)
  first | rw [show A.in1.handled=none from hh] | rw [hh]
  exact wpAny_bind (wpAny_pure (wpAny_throw (hE _ _ (((Heap.SameBut.update ..).extBut.push _).push _) ⟨_,Heap.get?_push_size _ rfl,rfl⟩)))
section
variable {A:Around} {E:Value->Shared->Prop} {s:Shared} {z TI TO i1 i2 t1 t2:Addr} {xs ys:Array Value} {S1 S2:Nat->Heap->Prop} {k:Nat}
end
end
end L3
namespace L3
open PySem PySem.Spec PyProof.Rows L2
section
variable {X:Cx} {pins:List (Addr × Obj)} {σ:L2.St} {H:Hp} {s:Shared} {h':Heap}
theorem turnedL {t':Nat} {L:List Addr} (I:Inv X pins σ H s) (k:∀ b o,b ∉ L->s.heap.get? b=some o->h'.get? b=some o) (hf:∀ b ∈ L,FpOk X pins H b):Inv X pins σ H { s with heap:=h',toks:=t' }:=by
 have nit:∀ b u,H b=some u->b ∉ L:=fun b u e z=>by rw [(hf b z).1] at e;cases e
 have nl:X.env.locals ∉ L:=fun z=>(hf _ z).2.1 rfl
 refine I.step (g':=s.gens) (d':=s.drawn) (ch:=L) (fun b hb=>?_) (fun b o _ _ hc e _=>k b o hc e) (fun b o _ _ hc e _=>⟨o.slots,k b o hc e⟩) (fun _ _ _ _ n=>n)
  (fun b o hc e=>⟨o,k b o hc e⟩) (fun _ _ e=>e) (fun _ _ _ e=>e) (fun b ps e=>⟨#[],by rw [e];simp⟩) (fun m hm=>?_) (fun b u e=>?_) I.bare
 ·obtain ⟨f0,f1,f2,f3,f4,f5⟩:=hf b hb
  exact ⟨f3,f1,f4,f5⟩
 ·obtain ⟨o,es,ep,ho,r⟩:=hm
  exact ⟨o,es,ep,k _ o nl ho,r⟩
 ·refine (I.hok b u e).stay (fun c v hc q=>k c v ?_ q) (fun _ q=>q) fun _ _ q=>q
  rcases hc with z | z
  ·rw [z];exact nit b u e
  ·exact nit c _ z
end
section
variable {prog:Program} {w:World} {A:Around} {E:Value->Shared->Prop} {s:Shared} {z TI TO i1 i2 t1 t2:Addr} {xs ys:Array Value} {k:Nat}
abbrev TS1 (i1 t1:Addr) (xs:Array Value):Nat->Heap->Prop:=fun i h=>h.IsTupleIter i1 t1 i/\h.IsTuple t1 xs
abbrev zT1 (h:Heap) (a:Addr):Heap:=h.push { cls:=.type "tuple_iterator",data:=.fields #[.ref a,.int 0 0] }
end
section
variable {X:Cx} {es:List Expr} {x1:Nat} {tpos:Pos}
theorem ix_dictM {K:PySem.W.Frag} (hK:X.K=K) {a:Addr} {es:Array DictEntry} {n:Nat} (hl:K.lookup a=some ⟨.type "dict",none,.dict es n,#[]⟩) (hk:PySem.W.KeysLit X.w.params es.toList) :
  IxR X (fun x y H Q=>∃ (z:Str) (v:V) (u:Value),x=.ref a/\y=.str z/\PySem.W.nsIn K a z=some (some u)/\RelV v u/\Q v H):=by
 subst hK
 intro value slice pins s σ H x y v u Q I rx ry h hs
 obtain ⟨z,v',u',rfl,rfl,e,rv,q⟩:=h
 cases rx
 obtain ⟨t,rfl⟩:=ry
 have hm:=PySem.W.mapOf_K (prog:=X.prog) I.kIn hl hk
 exact tail_any hm.typeIs PySem.F.slot_dict_getitem.lookup (wpAny_getItem_of (strKind_is X.prog X.w z t) hm (PySem.W.find_K hl e) ⟨v',H,I.tok _,rv,q⟩) hs
end
end L3
namespace L3
open PySem PySem.Spec PyProof.Rows L2
section
variable {X:Cx}
theorem passE {P:Program} {w:World} {X:Cx}:Passes (CXv P w) X E0:=fun _ _ _ _ _ _ _ h=>by
 obtain ⟨_,_,_,_,_,_,_,_,_,_,_,_,_,_,hE⟩:=h
 exact False.elim hE
theorem call_str_any:CallR X (.type "str") (fun xs H Q=>(∃ i,xs=[.int i]/\i.natAbs.log2 < 1920/\Q (.str (toString i)) H)\/∃ z,xs=[.str z]/\Q (.str z) H):=by
 intro pins s σ H xs us Q I r h
 rcases h with ⟨i,rfl,hz,q⟩ | ⟨z,rfl,q⟩
 ·obtain ⟨u,rfl,t,rfl⟩:=vals1 r
  exact PySem.P.str_of_int hz ⟨.str _,H,I.tok _,⟨_,rfl⟩,q⟩
 ·obtain ⟨u,rfl,t,rfl⟩:=vals1 r
  exact PySem.P.str_of_str ⟨.str _,H,I,⟨_,rfl⟩,q⟩
end
def eqL:List V->List V->Bool
 | [],[]=>true
 | x :: xs,y :: ys=>eqV x y && eqL xs ys
 | _,_=>false
theorem eqL_eq:∀ xs ys:List V,(decide (xs.length=ys.length) && (List.range xs.length).all fun i=>eqV (xs.getD i .non) (ys.getD i .non))=eqL xs ys
 | [],[]=>rfl
 | [],y :: ys=>by simp [eqL]
 | x :: xs,[]=>by simp [eqL]
 | x :: xs,y :: ys=>by
  have ih:=eqL_eq xs ys
  rw [List.length_cons,List.length_cons,List.range_succ_eq_map,List.all_cons,List.all_map]
  have e:decide (xs.length+1=ys.length+1)=decide (xs.length=ys.length):=decide_eq_decide.mpr (by omega)
  rw [e]
  show (decide (xs.length=ys.length) && (eqV x y && (List.range xs.length).all fun i=>eqV (xs.getD i .non) (ys.getD i .non)))=(eqV x y && eqL xs ys)
  rw [<-ih]
  exact Bool.and_left_comm _ _ _
theorem EqS.flats {K:PySem.W.Frag} {H:Hp} {p r:Addr} {xs ys:List V} (h:(SqL K H p xs/\SqL K H r ys)\/(SqT K H p xs/\SqT K H r ys)) (hx:xs.all flatV=true) (hy:ys.all flatV=true):EqS K H 0 (.ref p) (.ref r) (eqL xs ys):=by
 refine ⟨p,r,xs,ys,fun i=>eqV (xs.getD i .non) (ys.getD i .non),rfl,rfl,h,fun i x y ex ey=>?_,(eqL_eq xs ys).symm⟩
 refine ⟨List.all_eq_true.mp hx x (List.mem_of_getElem? ex),List.all_eq_true.mp hy y (List.mem_of_getElem? ey),?_⟩
 show eqV (xs[i]?.getD .non) (ys[i]?.getD .non)=_
 rw [ex,ey];rfl
end L3
namespace Vm
open PySem PySem.Spec PyProof.Rows L2 L3
section
open PySem.StrLaws Builtin Builtin.Str
theorem kind_pos (x:Str):1<=Builtin.Str.strKind x:=by
 unfold Builtin.Str.strKind
 split
 ·exact Nat.le_refl _
 ·split <;> decide
end
structure TupsAt (H:Hp) (ts:List Addr) (sts:List Sk):Prop where
 len:ts.length=sts.length
 item:∀ (i:Nat) (t:Addr) (st:Sk),ts[i]?=some t->sts[i]?=some st->H t=some (.tup (stepV st))/\okS st
theorem TupsAt.mono {H H':Hp} {ts:List Addr} {sts:List Sk} (S:Same H H') (h:TupsAt H ts sts):TupsAt H' ts sts:=
 ⟨h.len,fun i t st e1 e2=>⟨S _ _ (h.item i t st e1 e2).1,(h.item i t st e1 e2).2⟩⟩
theorem TupsAt.nil {H:Hp}:TupsAt H [] []:=⟨rfl,fun i t st e _=>by simp at e⟩
theorem TupsAt.app {H:Hp} {ts us:List Addr} {sts sus:List Sk} (h:TupsAt H ts sts) (h2:TupsAt H us sus):TupsAt H (ts++us) (sts++sus):=by
 refine ⟨by rw [List.length_append,List.length_append,h.len,h2.len],fun i t st e1 e2=>?_⟩
 by_cases hi:i < ts.length
 ·rw [List.getElem?_append_left hi] at e1
  rw [List.getElem?_append_left (by rw [<-h.len];exact hi)] at e2
  exact h.item i t st e1 e2
 ·rw [List.getElem?_append_right (by omega)] at e1
  rw [List.getElem?_append_right (by rw [<-h.len];omega),<-h.len] at e2
  exact h2.item _ t st e1 e2
theorem TupsAt.one {H:Hp} {t:Addr} {st:Sk} (h:H t=some (.tup (stepV st))) (ho:okS st):TupsAt H [t] [st]:=by
 refine ⟨rfl,fun i t' st' e1 e2=>?_⟩
 cases i with
 | zero=>cases e1;cases e2;exact ⟨h,ho⟩
 | succ i=>simp at e1
theorem TupsAt.set {H:Hp} {l:Addr} {ts:List Addr} {sts:List Sk} {ys:List V} {o:HO} (h:TupsAt H ts sts) (hl:H l=some (.lst ys)):TupsAt (upd H l o) ts sts:=
 ⟨h.len,fun i t st e1 e2=>⟨by
  have e:=(h.item i t st e1 e2).1
  have n:t ≠ l:=fun z=>by rw [z,hl] at e;cases e
  rw [upd_ne n];exact e,(h.item i t st e1 e2).2⟩⟩
theorem sqT_mod {K:PySem.W.Frag} {a:Addr} {ws:List (Str × Tok)} {n:Nat} {sl:Array (Option Value)} (h:K.lookup a=some ⟨.type "tuple",none,.seq (ws.map fun p=>Value.str p.1 p.2).toArray n,sl⟩) (hz:ws.length<=1000) (H:Hp):SqT K H a (ws.map fun p=>V.str p.1):=by
 refine .inr ⟨_,_,n,h,rfl,rfl,by rw [List.size_toArray,List.length_map];exact few (by omega),?_⟩
 rw [List.toList_toArray]
 clear h hz
 induction ws with
 | nil=>exact .nil
 | cons p r ih=>exact .cons ⟨p.2,rfl⟩ ih
theorem comp_grow {α:Type} {J:It} {H:Hp} {as:List α} {v:α->V} {te:TE} {Q:VK} {rest:L2.St} (I:Nat->List V->Hp->Prop) (hs:∀ i acc H',i<=as.length->I i acc H'->Src J H' (as.map v)) (hz:as.length<=sizeLine) (h0:I 0 [] H)
  (hl:∀ i acc H',I i acc H'->acc.length=i) (he:∀ i a acc H',as[i]?=some a->I i acc H'->∀ k:VK,(∀ x H2,I (i+1) (acc++[x]) H2->k x H2)->te (some (v a) :: rest) H' k)
  (hq:∀ acc H',I as.length acc H'->∀ D,H' D=none->Q (.ref D) (upd H' D (.lst acc))):wComp J (gName 0) tYes te Q (none :: rest) H:=by
 refine ⟨fun i m σ acc H'=>I i acc H'/\i<=as.length/\m=as.length - i/\∃ o,σ=o :: rest,⟨as.length,h0,Nat.zero_le _,rfl,none,rfl⟩,?_⟩
 rintro i m σ acc H' ⟨hI,hi,rfl,o,rfl⟩
 have hacc:=hl i acc H' hI
 have S:=hs i acc H' hi hI
 by_cases hlt:i < as.length
 ·refine .inr ⟨S.go i (by rw [List.length_map];exact hlt),fun x H1 y=>?_⟩
  obtain ⟨rfl,hx⟩:=S.yld i x H1 (by rw [List.length_map];exact hlt) y
  rw [List.getElem?_map,List.getElem?_eq_getElem hlt] at hx
  have hx':v as[i]=x:=Option.some.inj hx
  subst hx'
  show te (some (v as[i]) :: rest) H1 _
  exact he i as[i] acc H1 (List.getElem?_eq_getElem hlt) hI _ fun x H2 h2=>⟨by omega,as.length - (i+1),by omega,h2,hlt,rfl,_,rfl⟩
 ·have ei:i=as.length:=by omega
  subst ei
  exact .inl ⟨S.stop _ (by rw [List.length_map];exact Nat.le_refl _),by omega,hq acc H' hI⟩
end Vm
namespace L3
open PySem PySem.Spec PyProof.Rows L2
def Itr3 (lo c:Int) (n:Nat):It:=⟨fun i _=>i < n,fun i H x H'=>H'=H/\x=.int (lo+(i:Nat) * c),fun i _=>n<=i⟩
theorem turn_range3 {P:Program} {w:World} {K:PySem.W.Frag} {tg:Expr} (it:Addr) (lo c:Int) (n:Nat):Turn P w K tg (Itr3 lo c n) [it] it (fun i h=>IsRangeIter h it (lo+(i:Nat) * c) ((n:Int) - (i:Nat)) c) where
 mem:=List.mem_singleton.mpr rfl
 obj:=fun i h st b hb=>by
  rw [List.mem_singleton.mp hb]
  exact ⟨_,st,fun v z=>nomatch (show Data.fields _=Data.cell v from z)⟩
 keep:=fun i h h' st k=>k it (List.mem_singleton.mpr rfl) _ st
 item:=by
  intro X hP hw hK hc i pins s σ H E I hf st hg
  subst hP hw hK
  obtain ⟨f0,f1,f2,f3,f4,f5⟩:=hf it (List.mem_singleton.mpr rfl)
  refine (Walks.range (prog:=X.prog) (w:=X.w) (I.ok.hd hc) it lo c n).item i s _ _ hg st fun v h' tk hv st' kk=>?_
  obtain ⟨t,rfl⟩:=hv
  have I1:Inv X pins σ H { s with heap:=h',toks:=tk }:=I.turned (fun b o hb e=>kk b o (fun z=>hb (List.mem_singleton.mp z)) e) f0 f1 f3 f4 f5
  exact ⟨_,rfl,go_of (s:={ s with heap:=h',toks:=tk }) (n := "range_iterator") st' rfl rfl (by decide) ⟨.int (lo+(i:Nat) * c),H,I1,⟨t,rfl⟩,⟨rfl,rfl⟩,st',fun b hb=>(hf b hb).1⟩⟩
 done:=by
  intro X hP hw hK hc i pins s σ H E I hf st hg
  subst hP hw hK
  obtain ⟨f0,f1,f2,f3,f4,f5⟩:=hf it (List.mem_singleton.mpr rfl)
  have hle:(n:Int) - (i:Nat)<=0:=by have:n<=i:=hg;omega
  exact wpAny_pyNext_range_end (I.ok.hd hc) st hle fun h' eb=>⟨rfl,I.turned (t':=s.toks) (fun b o hb e=>eb b o hb e) f0 f1 f3 f4 f5⟩
 self:=fun _ _ _ _ _ st h=>wpAny_pyIter_rangeiter st h
section
variable {X:Cx} {tg:Expr}
theorem range_it3 {pins:List (Addr × Obj)} {σ:L2.St} {H:Hp} {s:Shared} {R:It->Hp->Prop} {E:Value->Shared->Prop} {lo hi c:Int} {n:Nat} {t u v:Tok} {tk:Nat} (I:Inv X pins σ H s) (hs:Builtin.Range.small lo hi c=true) (hn:Builtin.Range.rangeSize lo hi c=(n:Int))
  (q:R (Itr3 lo c n) H):wpAny (model X.prog X.w) X.A (pyIter (.ref s.heap.objs.size)) (PIE X pins σ tg R) E { s with heap:=s.heap.push { cls:=.type "range",data:=.fields #[.int lo t,.int hi u,.int c v] },toks:=tk }:=by
 refine wpAny_pyIter_range (IsRange.new ..) hs ?_
 have I1:Inv X pins σ H { s with heap:=s.heap.push { cls:=.type "range",data:=.fields #[.int lo t,.int hi u,.int c v] },toks:=tk }:=I.kept fun b o e=>Heap.get?_push_of_some _ e
 generalize hg:s.heap.push { cls:=.type "range",data:=.fields #[.int lo t,.int hi u,.int c v] }=g at I1
 refine ⟨g.objs.size,[g.objs.size],_,_,H,rfl,I1.kept (t':=tk) fun b o e=>Heap.get?_push_of_some _ e,turn_range3 _ lo c n,?_,fun b hb=>?_,q⟩
 ·show IsRangeIter _ _ (lo+((0:Nat):Int) * c) ((n:Int) - ((0:Nat):Int)) c
  rw [show lo+((0:Nat):Int) * c=lo by simp,show (n:Int) - ((0:Nat):Int)=Builtin.Range.rangeSize lo hi c by rw [hn];simp]
  exact Heap.get?_push_size _ rfl
 ·rw [List.mem_singleton.mp hb]
  exact I1.fpOk (Nat.le_refl _) (I1.hok.fresh (Nat.le_refl _))
def iRng3 (ta:TA):TI:=fun σ H R=>ta σ H fun vs H1=>∃ (i j c:Int) (n:Nat),vs=[.int i,.int j,.int c]/\c ≠ 0/\c.natAbs < 1073741824/\Builtin.Range.small i j c=true/\Builtin.Range.rangeSize i j c=(n:Int)/\R (Itr3 i c n) H1
theorem pi_range3 {a b d:Expr} {ta:TA} {p pos:Pos} (hg:Gl X "range") (hm:X.mg "range" = none) (ha:PA X [a,b,d] ta) (hs:starEach [a,b,d] X.env=[(false,eval a X.env),(false,eval b X.env),(false,eval d X.env)]:=by rfl) (hs2:starEach [b,d] X.env=[(false,eval b X.env),(false,eval d X.env)]:=by rfl) :
  PI X tg (.Call (.Name "range" p) [a,b,d] [] pos) (iRng3 ta):=by
 intro pins s σ H R I h
 refine Call_ (ld_blt I hg hm boot_range (PyProof.Rows.callWith_type1 (thn (ha pos pins s σ H _ I h) fun us s1 ⟨vs,H1,I1,r1,q1⟩=>?_) (by rw [hs,hs2]) (by rw [hs2];rfl)))
 obtain ⟨i,j,c,n,e,hc,hc2,h1,h2,q⟩:=q1
 subst e
 cases r1 with
 | cons r rr=>
 cases rr with
 | cons r' rr=>
 cases rr with
 | cons r'' rr=>
  cases rr
  obtain ⟨t,rfl⟩:=r
  obtain ⟨t',rfl⟩:=r'
  obtain ⟨t'',rfl⟩:=r''
  exact call_range_3 hc (range_it3 I1 h1 h2 q) (Or.inl (PyProof.noPylong_small hc2))
theorem for_range3 {lo c:Int} {n:Nat} {g:TG} {tb:TS} {D:Ends} {σ:L2.St} {H:Hp} (Pv:Nat->L2.St->Hp->Prop) (h0:Pv 0 σ H)
  (hs:∀ i σ H,i < n->Pv i σ H->g (.int (lo+(i:Nat) * c)) σ H fun σ2 H2=>tb { D with nx:=Pv (i+1),ct:=Pv (i+1),bk:=D.nx } σ2 H2) (hd:∀ σ H,Pv n σ H->D.nx σ H) :
  ∃ W:Nat->Nat->L2.St->Hp->Prop,(∃ m,W 0 m σ H)/\∀ i m σ H,W i m σ H →
   ((Itr3 lo c n).stop i H/\D.nx σ H)\/((Itr3 lo c n).go i H/\∃ N:L2.St->Hp->Prop,(∀ σ' H',N σ' H'->∃ m',m' < m/\W (i+1) m' σ' H')/\∀ x H',(Itr3 lo c n).yld i H x H'->g x σ H' fun σ2 H2=>tb { D with nx:=N,ct:=N,bk:=D.nx } σ2 H2):=by
 refine ⟨fun i m σ H=>m=n - i/\i<=n/\Pv i σ H,⟨n,by simp,Nat.zero_le _,h0⟩,?_⟩
 rintro i m σ H ⟨rfl,hi,p⟩
 rcases Nat.lt_or_ge i n with hlt | hge
 ·refine .inr ⟨hlt,Pv (i+1),fun σ' H' p'=>⟨n - (i+1),by omega,rfl,hlt,p'⟩,?_⟩
  rintro x H' ⟨rfl,rfl⟩
  exact hs i σ _ hlt p
 ·have e:i=n:=by omega
  subst e
  exact .inl ⟨Nat.le_refl _,hd σ H p⟩
end
end L3
namespace L3
open PySem PySem.Spec PyProof.Rows L2
section
variable {X:Cx}
theorem op_mulB:OpR X (binaryOp .Mult) (rI (fun i j=>IntMulOk i j) fun i j=>.int (i * j)):=opI fun _ _ _ _ _ _ _ hc q=>mul_int q hc
end
end L3
namespace HT
open PySem PySem.Spec PyProof.Rows
section
variable {prog:Program} {w:World} {A:Around} {E:Value->Shared->Prop} {s:Shared}
end
end HT
namespace L3
open PySem PySem.Spec PyProof.Rows L2
section
variable {X:Cx} {e es:Expr} {te ts:TE} {pos p2:Pos}
end
end L3
namespace L3
open PySem PySem.W PySem.Calls PySem.Spec PyProof.Rows L2
theorem bits_lay {ns:List Int} (h:WData.layableAll [WData.list (ns.map WData.int)]=true):∀ m ∈ ns,Builtin.Int.intBits m<=1048576:=fun m hm=>by
 have h1:(WData.list (ns.map WData.int)).layable=true:=layableW_arg h _ List.mem_cons_self
 have h2:(WData.int m).layable=true:=layableW_item h1 _ (List.mem_map.mpr ⟨m,hm,rfl⟩)
 exact PyData.bits_of_layable (layable0_of_all (lay0_int h2))
theorem walk_ofB {l:PySem.W.OpenLaw} {n k:Nat} {q:Program} {loose:List Str} {XP:(Str->Option Value)->Heap->Prop} {YP:World->Heap->Prop} {d:DefRec} {K:Params->PySem.W.Frag} {CX:World->CXT} {sp:World->Sp} {x:Str}
  (hn:l.most=some n) (hn2:n<=sizeLine) (hdf:d.params.defaults=[]) (hr:Room k callerA) (hY:∀ (w:World) (h:Heap),YP w h->(K w.params).In h)
  (F:∀ (w:World) (mg:Str->Option Value) (fa:Addr) (h:Heap),(K w.params).In h->h.Ns mainGlobals mg->mg d.name=some (.ref fa) →
   ∃ fd:FuncData,(∀ (s:Shared) (u:Value),BindsTo s fd ⟨[u],[]⟩ [(x,u)])/\∀ base:Heap,(K w.params).In base->base.Ns mainGlobals mg->FnOk l.prog w (K w.params) mg base (CX w) k fa fd [x] (sp w))
  (hsp:∀ (w:World) (H:Hp) (a:Addr) (ns:List Int),ns.length<=n->(∀ m ∈ ns,Builtin.Int.intBits m<=1048576)->Only H->SqL (K w.params) H a (ns.map V.int)->sp w [.ref a] H (fun v _=>v=.bl true) fun _ _ _=>False)
  (hCX:∀ (w:World) (H:Hp) (s:Shared) (e:Value) (s':Shared),CX w [] H s (fun _ _ _=>False) e s'->False) :
  PySem.W.WalkO q loose XP YP l.row.toRowW d [] (fun f vs=>PySem.call f vs):=by
 intro w s₀ s₁ mg mb G Y fa o pm cd doc dV kV ho hd hcd hD hmg hg args vals as hpre hlay hrd hwl hlo
 obtain rfl:dV=.none:=Dflts.none hD hdf
 obtain rfl:kV=.none:=Dflts.noKw hD
 obtain ⟨a,vs,ns,rfl,rfl,hobj,hints,hlen⟩:=Att.script_of hn hpre hwl
 have KX:=hY w _ Y
 obtain ⟨fd,hb,hF⟩:=F w mg fa _ KX G.T.g hmg
 refine enter_call (codeAny_mono (law_call KX G.T.g G.T.b G.T.builtins G.T.nolimit hg hobj hints (Nat.le_trans hlen hn2) hr hF hb (fun H hO hS=>hsp w H a ns hlen (bits_lay hlay) hO hS) fun H e s'=>hCX w H s₁ e s') fun r s' hq=>?_)
 obtain ⟨rfl,h2,h3,h4⟩:=hq
 exact ⟨.inl ⟨.bool true,.bool true,[],rfl,fun _=>rfl,.bool true,Att.post_true l _,fun _=>⟨List.Pairwise.nil,fun _ hm=>(nomatch hm)⟩⟩,h2,h3,h4⟩
end L3
namespace Vm
open PySem PySem.Spec PyProof.Rows L2 L3
def swapW (es cs:List Str) (i j:Nat):Bool:=if i+1 < es.length then (if gt es i=gt es (i+1) then false else decide ((cs.drop j).take 2=[gt es (i+1),gt es i])) else false
def skips (es:List Str) (i:Nat):List Nat:=if i=0 then [] else ((List.range (es.length - i)).filter fun k=>decide (gt es (i+k)=gt es (i - 1))).map (·+1)
abbrev Way:=Sk × Nat × Nat
def w1 (es cs:List Str) (i j:Nat):List Way:=if i < es.length/\j < cs.length then [((if gt es i=gt cs j then .keep else .turn (gt cs j)),i+1,j+1)] else []
def w2 (es:List Str) (i j:Nat):List Way:=if i < es.length then [(.lose,i+1,j)] else []
def w3 (cs:List Str) (i j:Nat):List Way:=if j < cs.length then [(.add (gt cs j),i,j+1)] else []
def w4 (cs:List Str) (i j:Nat):List Way:=if 0 < j/\j < cs.length/\gt cs j=gt cs (j - 1) then [(.twice,i,j+1)] else []
def w5 (es cs:List Str) (i j:Nat):List Way:=if swapW es cs i j=true then [(.swap,i+2,j+2)] else []
def w6 (es:List Str) (i j:Nat):List Way:=(skips es i).map fun k=>(.skip k,i+k,j)
def ways (es cs:List Str) (i j:Nat):List Way:=w1 es cs i j++w2 es i j++w3 cs i j++w4 cs i j++w5 es cs i j++w6 es i j
theorem skips_in {es:List Str} {i k:Nat} (h:k ∈ skips es i):1<=k/\i+k<=es.length/\1<=i:=by
 unfold skips at h
 split at h
 ·cases h
 ·obtain ⟨m,hm,rfl⟩:=List.mem_map.mp h
  have:=List.mem_range.mp (List.mem_filter.mp hm).1
  omega
theorem ways_ok {es cs:List Str} {i j:Nat} (hc:∀ z ∈ cs,Good z) (he:es.length<=1000):∀ x ∈ ways es cs i j,okS x.1:=by
 intro x hx
 unfold ways at hx
 simp only [List.mem_append] at hx
 rcases hx with ((((h | h) | h) | h) | h) | h
 ·unfold w1 at h
  split at h
  ·rename_i hh
   rw [List.mem_singleton.mp h]
   show okS (if _ then _ else _)
   split
   ·trivial
   ·exact hc _ (gt_mem hh.2)
  ·cases h
 ·unfold w2 at h
  split at h
  ·rw [List.mem_singleton.mp h];trivial
  ·cases h
 ·unfold w3 at h
  split at h
  ·rename_i hh
   rw [List.mem_singleton.mp h];exact hc _ (gt_mem hh)
  ·cases h
 ·unfold w4 at h
  split at h
  ·rw [List.mem_singleton.mp h];trivial
  ·cases h
 ·unfold w5 at h
  split at h
  ·rw [List.mem_singleton.mp h];trivial
  ·cases h
 ·unfold w6 at h
  obtain ⟨k,hk,rfl⟩:=List.mem_map.mp h
  have:=skips_in hk
  exact ⟨this.1,by omega⟩
def wayV (t:Addr) (x:Way):List V:=[.ref t,.int ((x.2.1:Nat):Int),.int ((x.2.2:Nat):Int)]
structure WaysAt (H:Hp) (as:List Addr) (ws:List Way):Prop where
 len:as.length=ws.length
 item:∀ (k:Nat) (a:Addr) (x:Way),as[k]?=some a->ws[k]?=some x->∃ t,H a=some (.tup (wayV t x))/\H t=some (.tup (stepV x.1))
theorem WaysAt.mono {H H':Hp} {as:List Addr} {ws:List Way} (S:Same H H') (h:WaysAt H as ws):WaysAt H' as ws:=
 ⟨h.len,fun k a x e1 e2=>by
  obtain ⟨t,h1,h2⟩:=h.item k a x e1 e2
  exact ⟨t,S _ _ h1,S _ _ h2⟩⟩
theorem WaysAt.nil {H:Hp}:WaysAt H [] []:=⟨rfl,fun k a x e _=>by simp at e⟩
theorem WaysAt.set {H:Hp} {l:Addr} {ys:List V} {o:HO} {as:List Addr} {ws:List Way} (h:WaysAt H as ws) (hl:H l=some (.lst ys)):WaysAt (upd H l o) as ws:=
 ⟨h.len,fun k a x e1 e2=>by
  obtain ⟨t,h1,h2⟩:=h.item k a x e1 e2
  have n1:a ≠ l:=fun z=>by rw [z,hl] at h1;cases h1
  have n2:t ≠ l:=fun z=>by rw [z,hl] at h2;cases h2
  exact ⟨t,by rw [upd_ne n1];exact h1,by rw [upd_ne n2];exact h2⟩⟩
theorem WaysAt.app {H:Hp} {as bs:List Addr} {ws vs:List Way} (h:WaysAt H as ws) (h2:WaysAt H bs vs):WaysAt H (as++bs) (ws++vs):=by
 refine ⟨by rw [List.length_append,List.length_append,h.len,h2.len],fun i t st e1 e2=>?_⟩
 by_cases hi:i < as.length
 ·rw [List.getElem?_append_left hi] at e1
  rw [List.getElem?_append_left (by rw [<-h.len];exact hi)] at e2
  exact h.item i t st e1 e2
 ·rw [List.getElem?_append_right (by omega)] at e1
  rw [List.getElem?_append_right (by rw [<-h.len];omega),<-h.len] at e2
  exact h2.item _ t st e1 e2
theorem WaysAt.one {H:Hp} {a t:Addr} {x:Way} (h1:H a=some (.tup (wayV t x))) (h2:H t=some (.tup (stepV x.1))):WaysAt H [a] [x]:=by
 refine ⟨rfl,fun k a' x' e1 e2=>?_⟩
 cases k with
 | zero=>cases e1;cases e2;exact ⟨t,h1,h2⟩
 | succ k=>simp at e1
theorem way_add {H H2:Hp} {l t a:Addr} {as:List Addr} {ws:List Way} {x:Way} (S:Same H H2) (hl:H l=none) (h1:H2 l=some (.lst (as.map V.ref))) (hW:WaysAt H2 as ws) (ht:H2 t=none) (ha:upd H2 t (.tup (stepV x.1)) a=none) :
  upd (upd H2 t (.tup (stepV x.1))) a (.tup (wayV t x)) l=some (.lst (as.map V.ref)) ∧
  upd (upd (upd H2 t (.tup (stepV x.1))) a (.tup (wayV t x))) l (.lst (as.map V.ref++[.ref a])) l=some (.lst ((as++[a]).map V.ref)) ∧
  Same H (upd (upd (upd H2 t (.tup (stepV x.1))) a (.tup (wayV t x))) l (.lst (as.map V.ref++[.ref a]))) ∧
  WaysAt (upd (upd (upd H2 t (.tup (stepV x.1))) a (.tup (wayV t x))) l (.lst (as.map V.ref++[.ref a]))) (as++[a]) (ws++[x]):=by
 have S1:=same_upd (o:=.tup (stepV x.1)) ht
 have S2:=same_upd (o:=.tup (wayV t x)) ha
 have k1:=S2 _ _ (S1 _ _ h1)
 refine ⟨k1,by rw [upd_same,List.map_append];rfl,same_to ((S.trans S1).trans S2) hl,?_⟩
 refine WaysAt.set ?_ k1
 exact ((hW.mono S1).mono S2).app (WaysAt.one upd_same (S2 _ _ upd_same))
theorem cutV_two (cs:List Str) (j:Nat):cutV (cs.map V.str) (some ((j:Nat):Int)) (some (((j:Nat):Int)+2))=((cs.drop j).take 2).map V.str:=by
 have e:((j:Nat):Int)+2=((j+2:Nat):Int):=by omega
 unfold cutV
 rw [e,HT.sIx_nat,HT.sIx_nat,List.length_map,<-List.map_drop,<-List.map_take]
 congr 1
 by_cases h:j<=cs.length
 ·rw [Nat.min_eq_left h]
  by_cases h2:j+2<=cs.length
  ·rw [Nat.min_eq_left h2,Nat.add_sub_cancel_left]
  ·rw [Nat.min_eq_right (by omega),List.take_of_length_le (by rw [List.length_drop];omega),List.take_of_length_le (by rw [List.length_drop];omega)]
 ·rw [Nat.min_eq_right (by omega),Nat.min_eq_right (by omega),List.drop_of_length_le (Nat.le_refl _),List.drop_of_length_le (by omega)]
  simp
theorem cutTup {K:PySem.W.Frag} {H:Hp} {a:Addr} {xs:List V} {lo hi:Option Int} {Q:VK} (h:SqT K H a xs) (q:∀ p H',Same H H'->SqT K H' p (cutV xs lo hi)->Q (.ref p) H'):rSlTA K (.ref a) lo hi H Q:=by
 refine ⟨a,xs,rfl,h,fun hw=>q a H (Same.refl _) ?_,fun _ p hp=>q p _ (same_upd hp) (SqT.of upd_same)⟩
 have e:cutV xs lo hi=xs:=by
  unfold cutV
  rw [hw.1,hw.2,List.drop_zero,Nat.sub_zero,List.take_length]
 rw [e];exact h
theorem cutTake {α:Type} (g:α->V) (xs:List α) (n:Nat):cutV (xs.map g) none (some ((n:Nat):Int))=(xs.take n).map g:=by
 unfold cutV
 rw [HT.sIx_none,HT.sIx_nat,List.drop_zero,Nat.sub_zero,List.length_map,<-List.map_take]
 congr 1
 by_cases h:n<=xs.length
 ·rw [Nat.min_eq_left h]
 ·rw [Nat.min_eq_right (by omega),List.take_length,List.take_of_length_le (by omega)]
end Vm
namespace Vm
open PySem PySem.Spec PyProof.Rows L2 L3
abbrev Tb:=Nat->Nat->Option Int
def Tb.put (T:Tb) (d w:Nat) (v:Int):Tb:=fun a b=>if a=d/\b=w then some v else T a b
theorem Tb.put_same (T:Tb) (d w:Nat) (v:Int):T.put d w v d w=some v:=by simp [Tb.put]
theorem Tb.put_ne (T:Tb) {d w a b:Nat} (v:Int) (h:¬ (a=d/\b=w)):T.put d w v a b=T a b:=by simp [Tb.put,h]
structure TabI (pr:Nat->Sk->Int) (Dn:Nat->Nat->Way->Prop) (T:Tb):Prop where
 z:T 0 0=some 0
 le:∀ a b x,Dn a b x->∃ t u,T a b=some t/\T x.2.1 x.2.2=some u/\u<=t+pr a x.1
 eq:∀ a b u,T a b=some u->¬ (a=0/\b=0)->∃ a' b' t x,Dn a' b' x/\x.2.1=a/\x.2.2=b/\T a' b'=some t/\u=t+pr a' x.1
def Fwd (m n:Nat) (E:Nat->Nat->List Way):Prop:=∀ i j,i<=m->j<=n->∀ x ∈ E i j,x.2.1<=m/\x.2.2<=n/\i<=x.2.1/\j<=x.2.2/\(i < x.2.1\/j < x.2.2)
structure Rest (pr:Nat->Sk->Int) (m n:Nat) (E:Nat->Nat->List Way) (R:Nat->Nat->Int):Prop where
 z:R m n=0
 le:∀ i j,i<=m->j<=n->∀ x ∈ E i j,R i j<=pr i x.1+R x.2.1 x.2.2
 eq:∀ i j,i<=m->j<=n->¬ (i=m/\j=n)->∃ x ∈ E i j,R i j=pr i x.1+R x.2.1 x.2.2
theorem ways_fwd (es cs:List Str):Fwd es.length cs.length (ways es cs):=by
 intro i j hi hj x hx
 unfold ways at hx
 simp only [List.mem_append] at hx
 rcases hx with ((((h | h) | h) | h) | h) | h
 ·unfold w1 at h
  split at h
  ·rw [List.mem_singleton] at h;subst h;refine ⟨?_,?_,?_,?_,?_⟩ <;> simp only [] <;> omega
  ·simp at h
 ·unfold w2 at h
  split at h
  ·rw [List.mem_singleton] at h;subst h;refine ⟨?_,?_,?_,?_,?_⟩ <;> simp only [] <;> omega
  ·simp at h
 ·unfold w3 at h
  split at h
  ·rw [List.mem_singleton] at h;subst h;refine ⟨?_,?_,?_,?_,?_⟩ <;> simp only [] <;> omega
  ·simp at h
 ·unfold w4 at h
  split at h
  ·rw [List.mem_singleton] at h;subst h;refine ⟨?_,?_,?_,?_,?_⟩ <;> simp only [] <;> omega
  ·simp at h
 ·unfold w5 at h
  split at h
  ·rename_i hs
   rw [List.mem_singleton] at h;subst h
   unfold swapW at hs
   split at hs
   ·split at hs
    ·cases hs
    ·have hs:=of_decide_eq_true hs
     have hl:=congrArg List.length hs
     simp only [List.length_take,List.length_drop,List.length_cons,List.length_nil] at hl
     refine ⟨?_,?_,?_,?_,?_⟩ <;> simp only [] <;> omega
   ·cases hs
  ·simp at h
 ·unfold w6 at h
  obtain ⟨k,hk,rfl⟩:=List.mem_map.mp h
  have:=skips_in hk
  refine ⟨?_,?_,?_,?_,?_⟩ <;> simp only [] <;> omega
theorem ways_some (es cs:List Str) {i j:Nat} (hi:i<=es.length) (hj:j<=cs.length) (hn:¬ (i=es.length/\j=cs.length)):ways es cs i j ≠ []:=by
 intro z
 by_cases h:i < es.length
 ·have:(Sk.lose,i+1,j) ∈ ways es cs i j:=by
   unfold ways
   simp only [List.mem_append]
   refine .inl (.inl (.inl (.inl (.inr ?_))))
   unfold w2
   rw [if_pos h]
   exact List.mem_singleton.mpr rfl
  rw [z] at this;simp at this
 ·have:(Sk.add (gt cs j),i,j+1) ∈ ways es cs i j:=by
   unfold ways
   simp only [List.mem_append]
   refine .inl (.inl (.inl (.inr ?_)))
   unfold w3
   rw [if_pos (by omega)]
   exact List.mem_singleton.mpr rfl
  rw [z] at this;simp at this
theorem ways_none (es cs:List Str):ways es cs es.length cs.length=[]:=by
 cases h:ways es cs es.length cs.length with
 | nil=>rfl
 | cons x r=>
  have:=ways_fwd es cs _ _ (Nat.le_refl _) (Nat.le_refl _) x (by rw [h];simp)
  omega
theorem ways_turn {es cs:List Str} {i j:Nat} {x:Way} (h:x ∈ ways es cs i j) {z:Str} (e:x.1=.turn z):i < es.length:=by
 unfold ways at h
 simp only [List.mem_append] at h
 rcases h with ((((h | h) | h) | h) | h) | h
 ·unfold w1 at h
  split at h
  ·omega
  ·simp at h
 ·unfold w2 at h
  split at h
  ·omega
  ·simp at h
 ·unfold w3 at h
  split at h
  ·rw [List.mem_singleton] at h;subst h;cases e
  ·simp at h
 ·unfold w4 at h
  split at h
  ·rw [List.mem_singleton] at h;subst h;cases e
  ·simp at h
 ·unfold w5 at h
  split at h
  ·rw [List.mem_singleton] at h;subst h;cases e
  ·simp at h
 ·unfold w6 at h
  obtain ⟨k,hk,rfl⟩:=List.mem_map.mp h
  cases e
def RestAt (pr:Nat->Sk->Int) (E:Nat->Nat->List Way) (T:Tb) (a b:Nat):Prop:=∃ v,T a b=some v/\(E a b=[]->v=0)/\(∀ x ∈ E a b,∃ u,T x.2.1 x.2.2=some u/\v<=pr a x.1+u)/\(E a b ≠ []->∃ x ∈ E a b,∃ u,T x.2.1 x.2.2=some u/\v=pr a x.1+u)
def RestI (pr:Nat->Sk->Int) (m n:Nat) (E:Nat->Nat->List Way) (i j:Nat) (T:Tb):Prop:=∀ a b,a<=m->b<=n->(i < a\/(a=i/\j < b))->RestAt pr E T a b
def leastOf:List Int->Int
 | []=>0
 | x :: r=>r.foldl min x
theorem foldl_min_le:∀ (r:List Int) (x:Int),r.foldl min x<=x/\∀ y ∈ r,r.foldl min x<=y
 | [],x=>⟨Int.le_refl _,fun _ z=>nomatch z⟩
 | y :: r,x=>by
  have ih:=foldl_min_le r (min x y)
  rw [List.foldl_cons]
  refine ⟨by have:=ih.1;omega,fun z hz=>?_⟩
  rcases List.mem_cons.mp hz with rfl | hz
  ·have:=ih.1;omega
  ·exact ih.2 z hz
theorem foldl_min_mem:∀ (r:List Int) (x:Int),r.foldl min x=x\/r.foldl min x ∈ r
 | [],x=>.inl rfl
 | y :: r,x=>by
  rw [List.foldl_cons]
  rcases foldl_min_mem r (min x y) with h | h
  ·rcases Int.le_total x y with c | c
   ·rw [Int.min_eq_left c] at h ⊢;exact .inl h
   ·rw [Int.min_eq_right c] at h ⊢;exact .inr (by rw [h];exact List.mem_cons_self)
  ·exact .inr (List.mem_cons_of_mem _ h)
theorem leastOf_le {l:List Int} {y:Int} (h:y ∈ l):leastOf l<=y:=by
 cases l with
 | nil=>cases h
 | cons x r=>
  show r.foldl min x<=y
  rcases List.mem_cons.mp h with rfl | h
  ·exact (foldl_min_le r _).1
  ·exact (foldl_min_le r x).2 y h
theorem leastOf_mem {l:List Int} (h:l ≠ []):leastOf l ∈ l:=by
 cases l with
 | nil=>exact absurd rfl h
 | cons x r=>
  show r.foldl min x ∈ x :: r
  rcases foldl_min_mem r x with e | e
  ·rw [e];exact List.mem_cons_self
  ·exact List.mem_cons_of_mem _ e
theorem RestI.ends {pr:Nat->Sk->Int} {m n i j:Nat} {E:Nat->Nat->List Way} {T:Tb} (hE:Fwd m n E) (h:RestI pr m n E i j T) (hi:i<=m) (hj:j<=n) {x:Way} (hx:x ∈ E i j):∃ u,T x.2.1 x.2.2=some u:=by
 have w:=hE i j hi hj x hx
 obtain ⟨v,hv,_⟩:=h x.2.1 x.2.2 w.1 w.2.1 (by omega)
 exact ⟨v,hv⟩
theorem RestI.put {pr:Nat->Sk->Int} {m n i j:Nat} {E:Nat->Nat->List Way} {T:Tb} (hE:Fwd m n E) (h:RestI pr m n E i j T) (hi:i<=m) (hj:j<=n) :
  ∀ a b,a<=m->b<=n->(i < a\/(a=i/\j<=b))->RestAt pr E (T.put i j (leastOf ((E i j).map fun x=>pr i x.1+(T x.2.1 x.2.2).getD 0))) a b:=by
 intro a b ha hb hab
 have off:∀ x ∈ E a b,¬ (x.2.1=i/\x.2.2=j):=fun x hx=>by
  have:=hE a b ha hb x hx
  omega
 by_cases e:a=i/\b=j
 ·obtain ⟨rfl,rfl⟩:=e
  refine ⟨_,Tb.put_same ..,fun z=>?_,fun x hx=>?_,fun z=>?_⟩
  ·rw [z];rfl
  ·obtain ⟨u,hu⟩:=h.ends hE ha hb hx
   refine ⟨u,by rw [Tb.put_ne _ _ (off x hx)];exact hu,?_⟩
   refine leastOf_le (List.mem_map.mpr ⟨x,hx,?_⟩)
   rw [hu];rfl
  ·obtain ⟨x,hx,ex⟩:=List.mem_map.mp (leastOf_mem (l:=(E a b).map fun x=>pr a x.1+(T x.2.1 x.2.2).getD 0) (fun c=>z (List.map_eq_nil_iff.mp c)))
   obtain ⟨u,hu⟩:=h.ends hE ha hb hx
   refine ⟨x,hx,u,by rw [Tb.put_ne _ _ (off x hx)];exact hu,?_⟩
   rw [<-ex,hu];rfl
 ·obtain ⟨v,h1,h2,h3,h4⟩:=h a b ha hb (by omega)
  refine ⟨v,by rw [Tb.put_ne _ _ e];exact h1,h2,fun x hx=>?_,fun z=>?_⟩
  ·obtain ⟨u,hu,hl⟩:=h3 x hx
   exact ⟨u,by rw [Tb.put_ne _ _ (off x hx)];exact hu,hl⟩
  ·obtain ⟨x,hx,u,hu,he⟩:=h4 z
   exact ⟨x,hx,u,by rw [Tb.put_ne _ _ (off x hx)];exact hu,he⟩
theorem rest_of {pr:Nat->Sk->Int} {m n:Nat} {E:Nat->Nat->List Way} {T:Tb} (h:∀ a b,a<=m->b<=n->RestAt pr E T a b) (hN:E m n=[]) (hS:∀ i j,i<=m->j<=n->¬ (i=m/\j=n)->E i j ≠ []) :
  (∀ i j,i<=m->j<=n->∃ v,T i j=some v)/\Rest pr m n E (fun i j=>(T i j).getD 0):=by
 refine ⟨fun i j hi hj=>by obtain ⟨v,hv,_⟩:=h i j hi hj;exact ⟨v,hv⟩,?_,?_,?_⟩
 ·obtain ⟨v,h1,h2,_⟩:=h m n (Nat.le_refl _) (Nat.le_refl _)
  show (T m n).getD 0=0
  rw [h1,h2 hN];rfl
 ·intro i j hi hj x hx
  obtain ⟨v,h1,_,h3,_⟩:=h i j hi hj
  obtain ⟨u,hu,hl⟩:=h3 x hx
  show (T i j).getD 0<=_+(T x.2.1 x.2.2).getD 0
  rw [h1,hu];exact hl
 ·intro i j hi hj hn
  obtain ⟨v,h1,_,_,h4⟩:=h i j hi hj
  obtain ⟨x,hx,u,hu,he⟩:=h4 (hS i j hi hj hn)
  refine ⟨x,hx,?_⟩
  show (T i j).getD 0=_+(T x.2.1 x.2.2).getD 0
  rw [h1,hu];exact he
end Vm
namespace L3
open PySem PySem.Spec PyProof.Rows L2
theorem rep_fold (u:Value):∀ (k:Nat) (acc:Array Value),List.foldl (fun x1 x2=>x1++x2) acc (List.replicate k #[u])=acc++(List.replicate k u).toArray
 | 0,acc=>by simp
 | k+1,acc=>by
  rw [List.replicate_succ,List.foldl_cons,rep_fold u k,List.replicate_succ]
  apply Array.ext'
  simp
section
variable {pg:Program} {wo:World} {Ar:Around} {Ex:Value->Shared->Prop} {st:Shared}
theorem mulL_new {a:Addr} {its:Array Value} {c:Nat} {n:Int} {tk:Tok} {R:Value->Shared->Prop} (ha:st.heap.get? a=some { cls:=.type "list",data:=.seq its c })
  (h1:0<=n) (h2:n < 2 ^ 40) (h3:its.size * n.toNat<=2 ^ 24)
  (hR:R (.ref st.heap.objs.size) { st with heap:=st.heap.push { cls:=.type "list",data:=.seq (List.foldl (·++·) #[] (List.replicate (if its.isEmpty=true then 0 else n.toNat) its)) } }) :
  wpAny (model pg wo) Ar (binaryOp .Mult (.ref a) (.int n tk)) R Ex st:=by
 have fits:¬ (!Builtin.List.listFitsIndex n)=true:=by
  unfold Builtin.List.listFitsIndex
  simp
  omega
 have short:¬ Builtin.List.listTooLong (its.size * n.toNat)=true:=by
  unfold Builtin.List.listTooLong sizeLine
  simp
  omega
 have isL:st.TypeIs (.ref a) "list" := ⟨_,ha,rfl⟩
 refine wpAny_binaryOp_repeat_ref (by decide:(Value.type "list" == Value.type "int")=false) isL (fun s'=>typeIs_int s' n tk) noFill_list_mul F.fills_int_mul F.slot_int_rmul repeat_list F.slot_int_index.lookup ?_
 refine call_meets F.slot_int_rmul (typeIs_int st n tk) F.entry_int_rmul (F.args_int_rmul_2 _ _) (int___rmul___int_list n tk a its c) ?_
 refine ⟨ha,rfl,isL,?_⟩
 exact call_meets F.slot_list_mul isL F.entry_list_mul (F.args_list_mul_2 _ _) (AutoListH.list___mul___list_int_3 a its c n tk fits (by omega) short) ⟨ha,hR⟩
end
section
variable {X:Cx}
theorem vals_rep {v:V} {u:Value} (r:RelV v u):∀ k:Nat,Vals (List.replicate k v) (List.replicate k u)
 | 0=>.nil
 | k+1=>.cons r (vals_rep r k)
theorem op_mulL:OpR X (binaryOp .Mult) (fun x y H Q=>∃ (a:Addr) (v:V) (n:Nat),x=.ref a/\y=.int ((n:Nat):Int)/\H a=some (.lst [v])/\n<=100000/\∀ p,H p=none->Q (.ref p) (upd H p (.lst (List.replicate n v)))):=by
 intro pins s σ H x y w u Q I rx ry h
 obtain ⟨a,v,n,rfl,rfl,hH,hn,q⟩:=h
 obtain rfl:w=Value.ref a:=rx
 obtain ⟨t,rfl⟩:=ry
 obtain ⟨its,k,r,e,z⟩:=I.lst hH
 obtain ⟨u,rfl,ru⟩:=vals1 r
 have hf:H s.heap.objs.size=none:=I.hok.fresh (Nat.le_refl _)
 have hx:((n:Nat):Int).toNat=n:=Int.toNat_natCast n
 have hE:(if (#[u]:Array Value).isEmpty=true then 0 else ((n:Nat):Int).toNat)=n:=by rw [if_neg (by simp),hx]
 refine mulL_new (its:=#[u]) e (by omega) (by omega) (by rw [hx];show 1 * n<=2 ^ 24;omega) ?_
 rw [hE,rep_fold]
 refine ⟨.ref s.heap.objs.size,upd H s.heap.objs.size (.lst (List.replicate n v)),I.laid (t':=s.toks) (fun b u e=>Heap.get?_push_of_some _ e) (Nat.le_refl _) ?_,rfl,q _ hf⟩
 refine ⟨by rw [List.length_replicate];show n<=sizeLine;unfold sizeLine;omega,List.replicate n u,0,vals_rep ru n,?_⟩
 have:(#[]++(List.replicate n u).toArray:Array Value)=(List.replicate n u).toArray:=by simp
 rw [this]
 exact Heap.get?_push_size _ rfl
end
end L3
namespace Vm
open PySem PySem.Spec PyProof.Rows L2 L3
def ov:Option Int->V
 | none=>.non
 | some v=>.int v
def rowV (n:Nat) (f:Nat->Option Int):List V:=(List.range (n+1)).map fun j=>ov (f j)
theorem rowV_len (n:Nat) (f:Nat->Option Int):(rowV n f).length=n+1:=by unfold rowV;rw [List.length_map,List.length_range]
theorem rowV_at {n j:Nat} (f:Nat->Option Int) (h:j<=n):(rowV n f)[j]?=some (ov (f j)):=by
 unfold rowV
 rw [List.getElem?_map,List.getElem?_range (by omega)]
 rfl
theorem rowV_set {n j:Nat} (f:Nat->Option Int) (v:Int) (h:j<=n):(rowV n f).set j (.int v)=rowV n (fun b=>if b=j then some v else f b):=by
 apply List.ext_getElem?
 intro k
 by_cases hk:k<=n
 ·rw [rowV_at _ hk]
  by_cases e:k=j
  ·subst e
   rw [List.getElem?_set_self (by rw [rowV_len];omega)]
   show some (V.int v)=some (ov (if k=k then some v else f k))
   rw [if_pos rfl];rfl
  ·rw [List.getElem?_set_ne (fun z=>e z.symm),rowV_at _ hk]
   show _=some (ov (if k=j then some v else f k))
   rw [if_neg e]
 ·rw [List.getElem?_eq_none (by rw [List.length_set,rowV_len];omega),List.getElem?_eq_none (by rw [rowV_len];omega)]
structure TabAt (H:Hp) (l:Addr) (rs:List Addr) (m n:Nat) (T:Tb):Prop where
 top:H l=some (.lst (rs.map V.ref))
 len:rs.length=m+1
 row:∀ i r,rs[i]?=some r->H r=some (.lst (rowV n (T i)))
 nd:rs.Nodup
 ne:l ∉ rs
theorem TabAt.mono {H H':Hp} {l:Addr} {rs:List Addr} {m n:Nat} {T:Tb} (h:TabAt H l rs m n T) (S:Same H H'):TabAt H' l rs m n T:=⟨S _ _ h.top,h.len,fun i r e=>S _ _ (h.row i r e),h.nd,h.ne⟩
theorem TabAt.line {H:Hp} {l:Addr} {rs:List Addr} {m n:Nat} {T:Tb} (h:TabAt H l rs m n T) {i:Nat} (hi:i<=m):∃ r,rs[i]?=some r/\atI (rs.map V.ref) ((i:Nat):Int)=some (.ref r)/\H r=some (.lst (rowV n (T i))):=by
 have hl:i < rs.length:=by rw [h.len];omega
 refine ⟨rs[i],List.getElem?_eq_getElem hl,atI_nat ?_,h.row i _ (List.getElem?_eq_getElem hl)⟩
 rw [List.getElem?_map,List.getElem?_eq_getElem hl];rfl
theorem rowV_atI {n j:Nat} (f:Nat->Option Int) (h:j<=n):atI (rowV n f) ((j:Nat):Int)=some (ov (f j)):=atI_nat (rowV_at f h)
theorem ixN_nat {n j:Nat} (h:j < n):ixN n ((j:Nat):Int)=some j:=by
 unfold ixN
 have h1:¬ ((j:Int) < 0):=by omega
 simp [h1,h]
theorem nd_inj {α:Type} {l:List α} (h:l.Nodup) {i j:Nat} (hi:i < l.length) (hj:j < l.length) (e:l[i]?=l[j]?):i=j:=by
 have key:∀ (a b:Nat) (ha:a < l.length) (hb:b < l.length),a < b->l[a]? ≠ l[b]?:=by
  intro a b ha hb hab z
  have:=(List.pairwise_iff_getElem.mp h) a b ha hb hab
  rw [List.getElem?_eq_getElem ha,List.getElem?_eq_getElem hb] at z
  exact this (Option.some.inj z)
 rcases Nat.lt_trichotomy i j with c | c | c
 ·exact absurd e (key i j hi hj c)
 ·exact c
 ·exact absurd e.symm (key j i hj hi c)
theorem TabAt.put {H:Hp} {l r:Addr} {rs:List Addr} {m n i j:Nat} {T:Tb} (v:Int) (h:TabAt H l rs m n T) (hr:rs[i]?=some r) (hj:j<=n):TabAt (upd H r (.lst ((rowV n (T i)).set j (.int v)))) l rs m n (T.put i j v):=by
 have hm:r ∈ rs:=List.mem_of_getElem? hr
 have hil:i < rs.length:=(List.getElem?_eq_some_iff.mp hr).1
 refine ⟨?_,h.len,?_,h.nd,h.ne⟩
 ·rw [upd_ne (fun e=>h.ne (by rw [e];exact hm))];exact h.top
 ·intro k r' hk
  by_cases e:k=i
  ·subst e
   rw [hr] at hk
   injection hk with hk
   subst hk
   rw [upd_same,rowV_set _ _ hj]
   congr 2
   unfold rowV
   apply List.map_congr_left
   intro b _
   congr 1
   show (if b=j then some v else T k b)=if k=k/\b=j then some v else T k b
   by_cases eb:b=j
   ·rw [if_pos eb,if_pos ⟨rfl,eb⟩]
   ·rw [if_neg eb,if_neg (fun z=>eb z.2)]
  ·have hne:r' ≠ r:=fun z=>e (by
    have hkl:k < rs.length:=(List.getElem?_eq_some_iff.mp hk).1
    exact nd_inj h.nd hkl hil (by rw [hk,hr,z]))
   rw [upd_ne hne,h.row k r' hk]
   congr 2
   unfold rowV
   apply List.map_congr_left
   intro b _
   congr 1
   rw [Tb.put_ne _ _ (fun z=>e z.1)]
end Vm
namespace L2
open PySem PySem.Spec PyProof.Rows
section
variable {κ:Type} [DecidableEq κ]
def valV (kvs:List (κ × V)) (k:κ):Option V:=(kvs.find? fun kv=>decide (kv.1=k)).map (·.2)
def putK (kvs:List (κ × V)) (k:κ) (v:V):List (κ × V):=
 if (kvs.any fun kv=>decide (kv.1=k))=true then kvs.map (fun kv=>if kv.1=k then (kv.1,v) else kv) else kvs++[(k,v)]
theorem valV_pos {p:κ × V} {r:List (κ × V)} {k:κ} (e:p.1=k):valV (p :: r) k=some p.2:=by simp [valV,List.find?_cons,e]
theorem valV_neg {p:κ × V} {r:List (κ × V)} {k:κ} (e:¬ p.1=k):valV (p :: r) k=valV r k:=by simp [valV,List.find?_cons,e]
theorem valV_any (k:κ):∀ kvs:List (κ × V),(kvs.any fun kv=>decide (kv.1=k))=(valV kvs k).isSome
 | []=>rfl
 | p :: r=>by
  rw [List.any_cons]
  by_cases e:p.1=k
  ·simp only [valV_pos e,decide_eq_true e,Bool.true_or,Option.isSome_some]
  ·rw [valV_neg e,decide_eq_false e,Bool.false_or];exact valV_any k r
theorem length_putK (kvs:List (κ × V)) (k:κ) (v:V):(putK kvs k v).length<=kvs.length+1:=by
 unfold putK
 split
 ·rw [List.length_map];omega
 ·rw [List.length_append,List.length_cons,List.length_nil];omega
theorem putK_new {kvs:List (κ × V)} {k:κ} (v:V) (h:valV kvs k=none):putK kvs k v=kvs++[(k,v)]:=by
 unfold putK
 rw [valV_any,h]
 exact if_neg (by decide)
theorem RelO.getD {o:Option V} {u:Option Value} {d:V} {d':Value} (r:RelO o u) (rd:RelV d d'):RelV (o.getD d) (u.getD d'):=by
 cases o with
 | none=>cases u with
  | none=>exact rd
  | some _=>exact (show False from r).elim
 | some _=>cases u with
  | none=>exact (show False from r).elim
  | some _=>exact r
theorem KV.val {kvs:List (κ × V)} {vs:List (κ × Value)} (r:KV kvs vs) (k:κ):RelO (valV kvs k) (valueAt vs k):=by
 unfold KV at r
 induction r with
 | nil=>exact True.intro
 | @cons p q ps qs h t ih=>
  obtain ⟨h1,h2⟩:=h
  by_cases e:p.1=k
  ·have e':q.1=k:=h1.symm.trans e
   have b:valueAt (q :: qs) k=some q.2:=by simp [valueAt,List.find?_cons,e']
   rw [valV_pos e,b];exact h2
  ·have e':¬ q.1=k:=fun z=>e (h1.trans z)
   have b:valueAt (q :: qs) k=valueAt qs k:=by simp [valueAt,List.find?_cons,e']
   rw [valV_neg e,b];exact ih
theorem KV.any {kvs:List (κ × V)} {vs:List (κ × Value)} (r:KV kvs vs) (k:κ):(kvs.any fun kv=>decide (kv.1=k))=vs.any fun kv=>decide (kv.1=k):=by
 unfold KV at r
 induction r with
 | nil=>rfl
 | cons h t ih=>rw [List.any_cons,List.any_cons,ih,h.1]
theorem KV.repl {kvs:List (κ × V)} {vs:List (κ × Value)} (r:KV kvs vs) (k:κ) {y:V} {u:Value} (ry:RelV y u) :
  KV (kvs.map fun kv=>if kv.1=k then (kv.1,y) else kv) (vs.map fun kv=>if kv.1=k then (kv.1,u) else kv):=by
 unfold KV at r ⊢
 induction r with
 | nil=>exact .nil
 | @cons p q ps qs h t ih=>
  rw [List.map_cons,List.map_cons]
  refine .cons ?_ ih
  obtain ⟨h1,h2⟩:=h
  by_cases e:p.1=k
  ·rw [if_pos e,if_pos (h1.symm.trans e)];exact ⟨h1,ry⟩
  ·rw [if_neg e,if_neg (fun z=>e (h1.trans z))];exact ⟨h1,h2⟩
theorem KV.put {kvs:List (κ × V)} {vs:List (κ × Value)} (r:KV kvs vs) (k:κ) {y:V} {u:Value} (ry:RelV y u):KV (putK kvs k y) (stored vs k u):=by
 unfold putK stored
 rw [r.any k]
 by_cases e:(vs.any fun kv=>decide (kv.1=k))=true
 ·rw [if_pos e,if_pos e];exact r.repl k ry
 ·rw [if_neg e,if_neg e];exact Paired.snoc r ⟨rfl,ry⟩
theorem KV.length {kvs:List (κ × V)} {vs:List (κ × Value)} (r:KV kvs vs):kvs.length=vs.length:=Paired.length r
end
section
variable {P:Program} {w:World} {H:Hp} {h:Heap} {a:Addr}
end
section
variable {X:Cx} {pins:List (Addr × Obj)} {σ:St} {H:Hp} {s:Shared} {a:Addr} {y v:V} {u r:Value} {o:Option V} {A:Around} {E:Value->Shared->Prop}
theorem Inv.big (I:Inv X pins σ H s):sysModules < s.heap.objs.size:=by
 have h:mainGlobals < s.heap.objs.size:=(I.mod.glob.keeps I.bk).lt
 exact Nat.lt_trans (by decide) h
theorem d_write {h':Heap} {t':Nat} {ob:HO} (I:Inv X pins σ H s) (mu:Mut (H a)) (hs:Heap.SameBut a s.heap h') (he:∃ q,h'.get? a=some q) (new:ObjOk X.prog X.w (upd H a ob) h' a ob) :
  Inv X pins σ (upd H a ob) { s with heap:=h',toks:=t' }:=
 I.write (x:=a) (e:=a) mu (.inl rfl) (fun b q hb z=>(hs.2 b hb).trans z) he new
end
end L2
namespace Vm
open PySem PySem.Spec PyProof.Rows L2 L3
theorem best_le (val:Nat->Int):∀ k j,j<=k->val (argBest (fun a b=>decide (val a < val b)) k)<=val j
 | 0,j,h=>by rw [show j=0 by omega];exact Int.le_refl _
 | k+1,j,h=>by
  have ih:=best_le val k
  show val (if decide (val (k+1) < val (argBest (fun a b=>decide (val a < val b)) k))=true then k+1 else argBest (fun a b=>decide (val a < val b)) k)<=val j
  by_cases hb:val (k+1) < val (argBest (fun a b=>decide (val a < val b)) k)
  ·rw [if_pos (decide_eq_true hb)]
   by_cases e:j=k+1
   ·rw [e];exact Int.le_refl _
   ·have:=ih j (by omega);omega
  ·rw [if_neg (by rw [decide_eq_false hb];exact Bool.false_ne_true)]
   by_cases e:j=k+1
   ·rw [e];omega
   ·exact ih j (by omega)
theorem best_in (bt:Nat->Nat->Bool):∀ k,argBest bt k<=k
 | 0=>Nat.le_refl _
 | k+1=>by
  have ih:=best_in bt k
  show (if bt (k+1) (argBest bt k)=true then k+1 else argBest bt k)<=k+1
  by_cases h:bt (k+1) (argBest bt k)=true
  ·rw [if_pos h];exact Nat.le_refl _
  ·rw [if_neg h];omega
theorem minD_turn {pr:Program} {wd:World} {A:Around} {R:Result->Shared->Prop} {I:Addr} {fp wr:List Addr} {n:Nat} {Pp:Nat->Value->Prop} {Sp':Nat->Heap->Prop} (d:Value) (T:Walks pr wd A.in1 I fp wr n Pp Sp') (bt:Nat->Nat->Bool) (hb:CmpOf pr wd A.in1 .Lt Pp bt) (B:Addr) (hB:B ∉ fp) :
  ∀ (k j:Nat) (s:Shared) (u:Value) (c:Nat),n - (j+1)=k->j+1<=n->Sp' (j+1) s.heap->Pp (argBest bt j) u->s.heap.get? B=some ⟨.type "list",none,.seq #[u,u] c,#[]⟩ →
   (∀ v h2 tk,Pp (argBest bt (n - 1)) v->(∀ b o,b ∉ wr->b ≠ B->s.heap.get? b=some o->h2.get? b=some o)->R (.ok (.ret v)) { s with heap:=h2,toks:=tk }) →
   codeAny (model pr wd) A (.builtin "min.loop" ⟨[.ref I,.none,.ref B],[(Str.ofString "default",d)]⟩) R s:=by
 have hw:B ∉ wr:=fun h=>hB (T.sub _ h)
 have nm:(toString "min"++toString ".loop" : String) = "min.loop" := by decide
 intro k
 induction k with
 | zero=>
  intro j s u c hk hj hst hu hS hR
  have e1:j+1=n:=by omega
  refine codeAny_builtin PySem.F.entry_min_loop ?_;rw [Around.under_plainId PySem.F.plain_min_loop _]
  show wpAny _ A.in1 (seqItems? (.ref B) >>= _) _ _ s;refine wpAny_bind (wpAny_seqItems hS rfl ?_)
  show wpAny _ A.in1 (tryCatch (pyNext (.ref I)) _ >>= _) _ _ s;refine wpAny_bind (wpAny_tryCatch (T.done s _ _ (e1 ▸ hst) fun h2 tk hk2=>?_))
  have hS2:=hk2 B _ hw hS
  show wpAny _ A.in1 (updateSeq B (fun _=>#[]) >>= _) _ _ _;refine wpAny_bind (wpAny_updateSeq hS2 rfl (wpAny_bind (wpAny_letGo (wpAny_pure ?_))))
  exact hR u _ tk (by rw [<-e1];exact hu) fun b o bw bS e=>(Heap.get?_update_other _ _ (Ne.symm bS)).trans (hk2 b o bw e)
 | succ k ih=>
  intro j s u c hk hj hst hu hS hR
  have lt:j+1 < n:=by omega
  refine codeAny_builtin PySem.F.entry_min_loop ?_;rw [Around.under_plainId PySem.F.plain_min_loop _]
  show wpAny _ A.in1 (seqItems? (.ref B) >>= _) _ _ s;refine wpAny_bind (wpAny_seqItems hS rfl ?_)
  show wpAny _ A.in1 (tryCatch (pyNext (.ref I)) _ >>= _) _ _ s;refine wpAny_bind (wpAny_tryCatch (T.item (j+1) s _ _ lt hst fun v h2 tk hv hst2 hk2=>?_))
  have hS2:=hk2 B _ hw hS
  show wpAny _ A.in1 (tryCatch (holding [v,v] (richCompare .Lt v u >>= _)) _ >>= _) _ _ _;refine wpAny_bind (wpAny_tryCatch (wpAny_holding (wpAny_bind (hb (j+1) (argBest bt j) v u _ _ _ hv hu ?_))))
  refine wpAny_bind (wpAny_holding (wpAny_truthy_bool (wpAny_bind (wpAny_letGo (wpAny_pure ?_)))))
  cases hbt:bt (j+1) (argBest bt j) with
  | true=>
   simp only [if_true];refine wpAny_bind (wpAny_updateSeq hS2 rfl (wpAny_bind (wpAny_letGo ?_)));rw [nm]
   refine wpAny_pure ⟨plainId_quiet PySem.F.plain_min_loop _,ih (j+1) _ v _ (by omega) lt (T.frame _ _ _ hst2 fun b bf o e=>?_) (by simp only [argBest,hbt,if_true];exact hv) (Heap.get?_update_self _ hS2 rfl) fun v3 h3 tk3 hv3 hk3=>?_⟩
   ·exact (Heap.get?_update_other _ _ (fun h:B=b=>hB (by rw [h];exact bf))).trans e
   ·exact hR v3 h3 tk3 hv3 fun b o bw bS e=>hk3 b o bw bS ((Heap.get?_update_other _ _ (Ne.symm bS)).trans (hk2 b o bw e))
  | false=>
   simp only [Bool.false_eq_true,if_false];refine wpAny_bind (wpAny_letGo ?_);rw [nm]
   refine wpAny_pure ⟨plainId_quiet PySem.F.plain_min_loop _,ih (j+1) _ u c (by omega) lt hst2 (by simp only [argBest,hbt,Bool.false_eq_true,if_false];exact hu) hS2 fun v3 h3 tk3 hv3 hk3=>?_⟩
   exact hR v3 h3 tk3 hv3 fun b o bw bS e=>hk3 b o bw bS (hk2 b o bw e)
theorem minD_first {pr:Program} {wd:World} {A:Around} {R:Result->Shared->Prop} {I:Addr} {fp wr:List Addr} {n:Nat} {Pp:Nat->Value->Prop} {Sp':Nat->Heap->Prop} (d:Value) (T:Walks pr wd A.in1 I fp wr n Pp Sp') (bt:Nat->Nat->Bool) (hb:CmpOf pr wd A.in1 .Lt Pp bt) (B:Addr) (hB:B ∉ fp) {s:Shared} {c:Nat} (hst:Sp' 0 s.heap)
  (hS:s.heap.get? B=some ⟨.type "list",none,.seq #[] c,#[]⟩)
  (h0:n=0->∀ h2 tk,(∀ b o,b ∉ wr->b ≠ B->s.heap.get? b=some o->h2.get? b=some o)->R (.ok (.ret d)) { s with heap:=h2,toks:=tk })
  (hR:0 < n->∀ v h2 tk,Pp (argBest bt (n - 1)) v->(∀ b o,b ∉ wr->b ≠ B->s.heap.get? b=some o->h2.get? b=some o)->R (.ok (.ret v)) { s with heap:=h2,toks:=tk }) :
  codeAny (model pr wd) A (.builtin "min.loop" ⟨[.ref I,.none,.ref B],[(Str.ofString "default",d)]⟩) R s:=by
 have hw:B ∉ wr:=fun h=>hB (T.sub _ h)
 have nm:(toString "min"++toString ".loop" : String) = "min.loop" := by decide
 refine codeAny_builtin PySem.F.entry_min_loop ?_;rw [Around.under_plainId PySem.F.plain_min_loop _]
 show wpAny _ A.in1 (seqItems? (.ref B) >>= _) _ _ s;refine wpAny_bind (wpAny_seqItems hS rfl ?_)
 show wpAny _ A.in1 (tryCatch (pyNext (.ref I)) _ >>= _) _ _ s
 by_cases hn:n=0
 ·refine wpAny_bind (wpAny_tryCatch (T.done s _ _ (hn ▸ hst) fun h2 tk hk2=>?_))
  show wpAny _ A.in1 (rule _ >>= _) _ _ _
  refine wpAny_bind (wpAny_rule (wpAny_pure ?_))
  exact h0 hn h2 tk fun b o bw _ e=>hk2 b o bw e
 ·have hn:0 < n:=by omega
  refine wpAny_bind (wpAny_tryCatch (T.item 0 s _ _ hn hst fun v h2 tk hv hst2 hk2=>?_))
  have hS2:=hk2 B _ hw hS
  show wpAny _ A.in1 (updateSeq B (fun _=>#[v,v]) >>= _) _ _ _;refine wpAny_bind (wpAny_updateSeq hS2 rfl ?_);rw [nm]
  refine wpAny_pure ⟨plainId_quiet PySem.F.plain_min_loop _,minD_turn d T bt hb B hB _ 0 _ v _ rfl hn (T.frame _ _ _ hst2 fun b bf o e=>?_) hv (Heap.get?_update_self _ hS2 rfl) fun v3 h3 tk3 hv3 hk3=>?_⟩
  ·exact (Heap.get?_update_other _ _ (fun h:B=b=>hB (by rw [h];exact bf))).trans e
  ·exact hR hn v3 h3 tk3 hv3 fun b o bw bS e=>hk3 b o bw bS ((Heap.get?_update_other _ _ (Ne.symm bS)).trans (hk2 b o bw e))
theorem args_minD (a v:Value):argsOk "min" ⟨[a],[(Str.ofString "default",v)]⟩:=by unfold argsOk;kernel_rfl
theorem minD_call {pr:Program} {wd:World} {A:Around} {E:Value->Shared->Prop} {s:Shared} {x d:Value} {Q:Value->Shared->Prop}
  (h:wpAny (model pr wd) A.in1 (pyIter x) (fun it s2=>∃ I fp wr n Pp Sp' bt,it=.ref I/\Walks pr wd A.in1 I fp wr n Pp Sp'/\Sp' 0 s2.heap/\(∀ b ∈ fp,b < s2.heap.objs.size)/\CmpOf pr wd A.in1 .Lt Pp bt ∧
   (n=0->∀ h2 tk,(∀ b o,b ∉ wr->s2.heap.get? b=some o->h2.get? b=some o)->Q d { s2 with heap:=h2,toks:=tk }) ∧
   (0 < n->∀ v h2 tk,Pp (argBest bt (n - 1)) v->(∀ b o,b ∉ wr->s2.heap.get? b=some o->h2.get? b=some o)->Q v { s2 with heap:=h2,toks:=tk })) E s) :
  wpAny (model pr wd) A (call (.builtin "min") [x] [(Str.ofString "default",d)]) Q E s:=by
 have nm:(toString "min"++toString ".loop" : String) = "min.loop" := by decide
 refine kmb_tree PySem.F.kind_min PySem.F.plain_min PySem.F.entry_min (args_minD _ _) ?_
 show wpAny _ A.in1 (Builtin.Builtins.bindParams "min" ["key","default"] 0 ⟨[],[(Str.ofString "default",d)]⟩ >>= _) _ _ s
 refine wpAny_bind (wpAny_of_eq (show Builtin.Builtins.bindParams "min" ["key","default"] 0 ⟨[],[(Str.ofString "default",d)]⟩=pure [none,some d] from rfl) (wpAny_bind (wpAny_pure ?_)))
 refine wpAny_bind (wpAny_mono h (fun it s2 g=>?_) fun _ _ e=>e)
 obtain ⟨I,fp,wr,n,Pp,Sp',bt,rfl,T,hst,hfp,hb,g0,g1⟩:=g
 refine wpAny_bind (wpAny_newObj_type ?_);rw [nm]
 have nB:s2.heap.objs.size ∉ fp:=fun hm=>Nat.lt_irrefl _ (hfp _ hm)
 refine wpAny_pure ⟨plainId_quiet PySem.F.plain_min_loop _,minD_first d T bt hb s2.heap.objs.size nB (T.frame _ _ _ hst fun b _ o e=>Heap.get?_push_of_some _ e) (Heap.get?_push_size _ rfl) (fun hn h2 tk hk=>?_) fun hn v h2 tk hv hk=>?_⟩
 ·exact g0 hn h2 tk fun b o bw e=>hk b o bw (Nat.ne_of_lt (Heap.lt_size e)) (Heap.get?_push_of_some _ e)
 ·exact g1 hn v h2 tk hv fun b o bw e=>hk b o bw (Nat.ne_of_lt (Heap.lt_size e)) (Heap.get?_push_of_some _ e)
theorem comp_trip {α:Type} {K:PySem.W.Frag} {J:It} {H:Hp} {as:List α} {v:α->V} {x y z:α->V} (e:α->V) {te:TE} {Q:VK} {rest:L2.St} (S:Src J H (as.map v)) (hz:as.length<=sizeLine)
  (hp:∀ a ∈ as,∃ p,v a=.ref p/\SqT K H p [x a,y a,z a]) (he:∀ a ∈ as,∀ k:VK,k (e a) H->te (some (x a) :: some (y a) :: some (z a) :: rest) H k)
  (hq:∀ D,H D=none->Q (.ref D) (upd H D (.lst (as.map e)))):wComp J (gTup K 3 (gCons (gName 0) (gCons (gName 1) (gCons (gName 2) gNil)))) tYes te Q (none :: none :: none :: rest) H:=by
 refine ⟨fun i m σ acc H'=>H'=H/\i<=as.length/\m=as.length - i/\acc=(as.take i).map e/\∃ o1 o2 o3,σ=o1 :: o2 :: o3 :: rest,⟨as.length,rfl,Nat.zero_le _,rfl,by simp,none,none,none,rfl⟩,?_⟩
 rintro i m σ acc H' ⟨rfl,hi,rfl,rfl,o1,o2,o3,rfl⟩
 have hacc:((as.take i).map e).length<=i:=by
  rw [List.length_map,List.length_take];exact Nat.min_le_left _ _
 by_cases hlt:i < as.length
 ·refine .inr ⟨S.go i (by rw [List.length_map];exact hlt),fun w H1 yl=>?_⟩
  obtain ⟨rfl,hx⟩:=S.yld i w H1 (by rw [List.length_map];exact hlt) yl
  rw [List.getElem?_map,List.getElem?_eq_getElem hlt] at hx
  have hx':v as[i]=w:=Option.some.inj hx
  subst hx'
  have hm:as[i] ∈ as:=List.getElem_mem hlt
  obtain ⟨p,ep,hpp⟩:=hp _ hm
  have ts:as.take (i+1)=as.take i++[as[i]]:=List.take_succ_eq_append_getElem hlt
  refine ⟨p,_,ep,hpp,rfl,_,_,rfl,_,_,rfl,_,_,rfl,rfl,?_⟩
  show te (some (x as[i]) :: some (y as[i]) :: some (z as[i]) :: rest) H1 _
  refine he _ hm _ ⟨by omega,as.length - (i+1),by omega,rfl,hlt,rfl,?_,_,_,_,rfl⟩
  rw [ts,List.map_append]
  rfl
 ·have ei:i=as.length:=by omega
  subst ei
  refine .inl ⟨S.stop _ (by rw [List.length_map];exact Nat.le_refl _),by omega,fun D hD=>?_⟩
  rw [List.take_length]
  exact hq D hD
section
variable {X:Cx}
def rMinD (K:PySem.W.Frag):V->Hp->VK->Prop:=fun x H Q=>∃ (p:Addr) (ns:List Int),x=.ref p/\SqL K H p (ns.map V.int)/\(ns=[]->Q (.int 0) H)/\∀ m ∈ ns,(∀ n ∈ ns,m<=n)->Q (.int m) H
def tMinD (K:PySem.W.Frag) (te:TE):TE:=fun σ H Q=>te σ H fun x H1=>rMinD K x H1 Q
theorem pe_minD {e:Expr} {te:TE} {p pos cp kp:Pos} {cj:Nat} (hc:X.calm=true) (hg:Gl X "min") (hm:X.mg "min" = none) (he:PE X e te) (hs:starEach [e] X.env=[(false,eval e X.env)]:=by rfl) :
  PE X (.Call (.Name "min" p) [e] [⟨some "default",.Constant (.int 0) cj cp,kp⟩] pos) (tMinD X.K te):=by
 intro pins s σ H Q I h
 refine wpAny_Call_Name_kw (ld_blt I hg hm boot_min ?_ (by decide) (by decide))
 have hpa:PA X [e] (tCons te tNil):=pa_cons he pa_nil hs
 refine callWith_kw (thn (hpa pos pins s σ H (fun xs H1=>match xs with | [x]=>rMinD X.K x H1 Q | _=>False) I h) fun us s1 ⟨vs,H1,I1,r1,q1⟩=>?_) (by rw [hs];rfl) (by rw [hs];rfl) rfl rfl
 match vs,r1,q1 with
 | [x],r1,q1=>
  obtain ⟨u,rfl,ru⟩:=r1.one
  refine kws_cons (thn (pe_int pins s1 σ H1 (fun y H2=>y=V.int 0/\rMinD X.K x H2 Q) I1 ⟨rfl,q1⟩) fun d s2 ⟨y,H2,I2,ry,ey,p,ns,ex,hq,q0,qm⟩=>kws_nil ?_)
  subst ey ex
  obtain ⟨td,rfl⟩:=ry
  cases ru
  show wpAny _ _ (call (.builtin "min") [.ref p] [(Str.ofString "default",Value.int 0 td)]) _ _ _
  obtain ⟨its,rv,hp,hz⟩:=I2.list hq
  have hlt:p < s2.heap.objs.size:=by obtain ⟨_,e,_⟩:=hp.isList;exact Heap.lt_size e
  have el:its.toArray.size=ns.length:=by rw [List.size_toArray,<-rv.length,List.length_map]
  have hval:∀ (i:Nat) (v:Value),its.toArray[i]?=some v->∃ t,v=.int (ns.getD i 0) t:=fun i v hv=>by
   have hv':its[i]?=some v:=by simpa using hv
   have hi:i < ns.length:=by
    have:=(List.getElem?_eq_some_iff.mp hv').1
    rw [<-el,List.size_toArray];exact this
   obtain ⟨u,hu,ru⟩:=rv.get (i:=i) (x:=V.int ns[i]) (by rw [List.getElem?_map,List.getElem?_eq_getElem hi];rfl)
   rw [hv'] at hu;cases hu
   obtain ⟨t,rfl⟩:=ru
   exact ⟨t,by show Value.int ns[i] t=Value.int (ns.getD i 0) t;rw [List.getD_eq_getElem?_getD,List.getElem?_eq_getElem hi];rfl⟩
  refine minD_call (wpAny_pyIter_list hp.isList ?_)
  refine ⟨s2.heap.objs.size,[s2.heap.objs.size,p],[s2.heap.objs.size],its.toArray.size,_,_,fun a b=>decide (ns.getD a 0 < ns.getD b 0),rfl,Walks.list (A:=X.A.in1) (I2.ok.hd hc) _ _ (Nat.ne_of_lt hlt) its.toArray,⟨⟨_,Heap.get?_push_size _ rfl,rfl,rfl⟩,hp.isList.push _⟩,?_,CmpOf.ints_lt (fun i=>ns.getD i 0) hval,?_,?_⟩
  ·intro b hb
   simp only [List.mem_cons,List.not_mem_nil,or_false] at hb
   rw [Heap.size_push]
   rcases hb with rfl | rfl
   ·exact Nat.lt_succ_self _
   ·exact Nat.lt_succ_of_lt hlt
  ·intro hn h2 tk hk
   exact ⟨.int 0,H2,I2.kept fun b o e=>hk b o (fun z=>absurd (Heap.lt_size e) (by rw [List.mem_singleton.mp z];exact Nat.lt_irrefl _)) (Heap.get?_push_of_some _ e),⟨_,rfl⟩,q0 (List.length_eq_zero_iff.mp (by omega))⟩
  ·intro hn v h2 tk hv hk
   obtain ⟨t,rfl⟩:=hval _ _ hv
   have hb:=best_in (fun a b=>decide (ns.getD a 0 < ns.getD b 0)) (its.toArray.size - 1)
   have hle:=best_le (fun i=>ns.getD i 0) (its.toArray.size - 1)
   generalize argBest (fun a b=>decide (ns.getD a 0 < ns.getD b 0)) (its.toArray.size - 1)=k at hb hle hv
   have hkl:k < ns.length:=by omega
   refine ⟨.int (ns.getD k 0),H2,I2.kept fun b o e=>hk b o (fun z=>absurd (Heap.lt_size e) (by rw [List.mem_singleton.mp z];exact Nat.lt_irrefl _)) (Heap.get?_push_of_some _ e),⟨_,rfl⟩,qm _ ?_ fun m hm=>?_⟩
   ·rw [List.getD_eq_getElem?_getD,List.getElem?_eq_getElem hkl];exact List.getElem_mem hkl
   ·obtain ⟨j,hj,rfl⟩:=List.mem_iff_getElem.mp hm
    have:=hle j (by omega)
    rw [List.getD_eq_getElem?_getD (i:=j),List.getElem?_eq_getElem hj] at this
    exact this
end
end Vm
namespace L3
open PySem PySem.Spec PyProof.Rows L2
section
variable {prog:Program} {w:World} {A:Around} {E:Value->Shared->Prop} {s:Shared} {z c t:Addr} {xs:Array Value} {S:Nat->Heap->Prop} {k:Nat}
theorem enum_draw {x old:Value} {Q:Value->Shared->Prop} (n1:c ≠ z) (n2:t ≠ z) (C:Cursor prog w c t xs S) (hz:IsEnum s.heap z c k old) (h1:S k s.heap) (hx:xs[k]?=some x)
  (hQ:∀ g,IsEnumOut g z c ((k:Int)+1) x s.heap.objs.size->S (k+1) g->g.get? s.heap.objs.size=some { cls:=.type "tuple",data:=.seq #[.int k s.toks,x] } →
   (∀ b o,b ≠ z->b ≠ c->s.heap.get? b=some o->g.get? b=some o)->Q (.ref s.heap.objs.size) { s with heap:=g,toks:=s.toks+1 }) :
  wpAny (model prog w) A (Builtin.«enumerate.__next__» ⟨[.ref z],[]⟩) (fun fin s'=>∃ v,fin=.done (.ret v)/\Q v s') E s:=by
 refine (show wpAny _ _ (field (.ref z) 2 >>= _) _ _ _ from wpAny_bind (wpAny_field hz rfl (x:=.ref c) rfl ?_))
 refine wpAny_bind (C.draw _ _ _ _ k x h1 hx fun g1 c1 e1=>?_)
 have q1:IsEnum g1 z c k old:=e1.extBut _ _ n1.symm hz
 refine (show wpAny _ _ (field (.ref z) 3 >>= _) _ _ _ from wpAny_bind (wpAny_field q1 rfl (x:=rawInt k) rfl ?_))
 refine (show wpAny _ _ (field (.ref z) 4 >>= _) _ _ _ from wpAny_bind (wpAny_field q1 rfl (x:=.none) rfl ?_))
 refine (show wpAny _ _ (mkInt k >>= _) _ _ _ from wpAny_bind (wpAny_mkInt ?_))
 refine (show wpAny _ _ (setField (.ref z) 3 (rawInt ((k:Int)+1)) >>= _) _ _ _ from wpAny_bind (wpAny_setField_rec q1 (by simp) fun g2 q2 e2=>?_));replace q2:IsEnum g2 z c ((k:Int)+1) old:=q2
 refine (show wpAny _ _ (setField (.ref z) 4 .none >>= _) _ _ _ from wpAny_bind (wpAny_setField_rec q2 (by simp) fun g3 q3 e3=>?_));replace q3:IsEnum g3 z c ((k:Int)+1) old:=q3
 refine (show wpAny _ _ (newTuple [.int k s.toks,x] >>= _) _ _ _ from wpAny_bind (wpAny_newTuple ?_))
 have sz:g3.objs.size=s.heap.objs.size:=by rw [e3.1,e2.1,e1.1]
 have zl:z < s.heap.objs.size:=Heap.lt_size hz
 have q4:IsEnum (g3.push { cls:=.type "tuple",data:=.seq #[.int k s.toks,x] }) z c ((k:Int)+1) old:=Heap.get?_push_of_some _ q3
 have p4:(g3.push { cls:=.type "tuple",data:=.seq #[.int k s.toks,x] }).get? s.heap.objs.size=some { cls:=.type "tuple",data:=.seq #[.int k s.toks,x] }:=by rw [<-sz];exact Heap.get?_push_size _ rfl
 have up4:∀ b o,b ≠ z->g1.get? b=some o->(g3.push { cls:=.type "tuple",data:=.seq #[.int k s.toks,x] }).get? b=some o:=fun b o n q=>Heap.get?_push_of_some _ (e3.extBut _ _ n (e2.extBut _ _ n q))
 generalize g3.push { cls:=.type "tuple",data:=.seq #[.int k s.toks,x] }=g4 at q4 p4 up4
 refine (show wpAny _ _ (Builtin.SmallTypes.ownedTupleIsFree (.ref z) >>= _) _ _ _ from ?_)
 rw [sz]
 refine wpAny_bind ?_;unfold Builtin.SmallTypes.ownedTupleIsFree
 refine wpAny_bind (wpAny_field q4 rfl (x:=.none) rfl (wpAny_pure ?_));simp only [if_true]
 refine wpAny_bind (wpAny_rule (wpAny_bind (wpAny_field q4 rfl (x:=old) rfl (wpAny_bind (wpAny_setField_rec q4 (by simp) fun g5 q5 e5=>?_)))));replace q5:IsEnum g5 z c ((k:Int)+1) x:=q5
 refine (show wpAny _ _ (Builtin.SmallTypes.ownedTupleHandOut (.ref z) (.ref s.heap.objs.size) >>= _) _ _ _ from wpAny_bind ?_);unfold Builtin.SmallTypes.ownedTupleHandOut
 refine wpAny_bind (wpAny_setField_rec q5 (by simp) fun g6 q6 e6=>?_);replace q6:IsEnumOut g6 z c ((k:Int)+1) x s.heap.objs.size:=q6
 refine wpAny_setField_rec q6 (by simp) fun g7 q7 e7=>?_;replace q7:IsEnumOut g7 z c ((k:Int)+1) x s.heap.objs.size:=q7
 have up:∀ b o,b ≠ z->g4.get? b=some o->g7.get? b=some o:=fun b o n q=>e7.extBut _ _ n (e6.extBut _ _ n (e5.extBut _ _ n q))
 refine wpAny_bind (wpAny_letGo (wpAny_pure ⟨_,rfl,hQ g7 q7 ?_ (up _ _ (Nat.ne_of_gt zl) p4) fun b o nz nc q=>up b o nz (up4 b o nz (e1.extBut _ _ nc q))⟩))
 exact C.stay _ _ _ c1 (fun o q=>up _ o n1 (up4 _ o n1 q)) (fun o q=>up _ o n2 (up4 _ o n2 q))
theorem enumT_next {x old:Value} {Q:Option Value->Shared->Prop} (n1:c ≠ z) (n2:t ≠ z) (n3:t ≠ c) (hz:IsEnum s.heap z c k old) (h1:TS1 c t xs k s.heap) (hx:xs[k]?=some x)
  (hQ:∀ g,IsEnumOut g z c ((k:Int)+1) x s.heap.objs.size->TS1 c t xs (k+1) g->g.get? s.heap.objs.size=some { cls:=.type "tuple",data:=.seq #[.int k s.toks,x] } →
   (∀ b o,b ≠ z->b ≠ c->s.heap.get? b=some o->g.get? b=some o)->Q (some (.ref s.heap.objs.size)) { s with heap:=g,toks:=s.toks+1 }):wpAny (model prog w) A (pyNext (.ref z)) Q E s:=by
 have ty:s.TypeIs (.ref z) "enumerate" := ⟨_,hz,rfl⟩
 unfold pyNext
 exact wpAny_bind (wpAny_attempt (wpAny_callSpecial?_slot (name:=Str.ofString "__next__") ty PySem.F.slot_enumerate_next (wpAny_call_entry PySem.F.slot_enumerate_next ty PySem.F.entry_enumerate_next
  (enum_draw n1 n2 (cursor_tuple c t xs n3) hz h1 hx fun g q1 q2 q3 q4=>wpAny_pure (hQ g q1 q2 q3 q4)) (PySem.F.args_enumerate_next_1 _))))
theorem enumT_end {old:Value} {Q:Option Value->Shared->Prop} (hh:A.handled=none) (n3:t ≠ c) (hz:IsEnum s.heap z c k old) (h1:TS1 c t xs k s.heap) (hx:xs[k]?=none)
  (hQ:∀ g,(∀ b o,b ≠ c->s.heap.get? b=some o->g.get? b=some o)->Q none { s with heap:=g }):wpAny (model prog w) A (pyNext (.ref z)) Q E s:=by
 have ty:s.TypeIs (.ref z) "enumerate" := ⟨_,hz,rfl⟩
 unfold pyNext
 refine wpAny_bind (wpAny_attempt (wpAny_callSpecial?_slot (name:=Str.ofString "__next__") ty PySem.F.slot_enumerate_next (wpAny_call_entry PySem.F.slot_enumerate_next ty PySem.F.entry_enumerate_next ?_ (PySem.F.args_enumerate_next_1 _))))
 refine (show wpAny _ _ (field (.ref z) 2 >>= _) _ _ _ from wpAny_bind (wpAny_field hz rfl (x:=.ref c) rfl ?_))
 refine wpAny_bind ((cursor_tuple (prog:=prog) (w:=w) c t xs n3).over _ _ _ _ k hh h1 hx fun g e e1 he=>?_)
 obtain ⟨o,ho,hc⟩:=he
 exact wpAny_bind (wpAny_isInstance (T := "StopIteration") (b:=true) ⟨o,ho,hc⟩ isSubtype_stop (wpAny_pure (hQ _ fun b o n q=>e1 b o n q)))
theorem meets_enumT (a:Addr) (us:Array Value) :
  Meets (Builtin.«enumerate.__new__» ⟨[.type "enumerate",.ref a],[]⟩) (fun _ R s=>s.heap.IsTuple a us/\R (.ok (.ret (.ref (zT1 s.heap a).objs.size))) { s with heap:=(zT1 s.heap a).push { cls:=.type "enumerate",data:=.fields #[.none,.bool false,.ref s.heap.objs.size,rawInt 0,.none,.none] } }):=
 .of_wp fun prog w A R s h=>by
  obtain ⟨hp,g,d,tk,os⟩:=s
  obtain ⟨e1,h⟩:=h
  have sub:=sub_enumerate
  have f1:Heap.IsTuple (Shared.heap ⟨hp,g,d,tk,os⟩) a us:=e1
  wp_walk
  refine wpAny_stack_any fun st=>wpAny_pure ?_
  split
  ·rename_i c _ _ _ _ _
   cases (c == Value.type "enumerate")
   ·wp_walk using wpAny_pyIter_tuple f1
    exact ⟨_,rfl,h⟩
   ·wp_walk using wpAny_pyIter_tuple f1
    exact ⟨_,rfl,h⟩
  ·wp_walk using wpAny_pyIter_tuple f1
   exact ⟨_,rfl,h⟩
theorem call_enumT {a:Addr} {us:Array Value} {Q:Value->Shared->Prop} (e1:s.heap.IsTuple a us)
  (h:∀ g,IsEnum g (s.heap.objs.size+1) s.heap.objs.size 0 .none->g.IsTupleIter s.heap.objs.size a 0->(∀ b o,s.heap.get? b=some o->g.get? b=some o)->Q (.ref (s.heap.objs.size+1)) { s with heap:=g }) :
  wpAny (model prog w) A (call (.type "enumerate") [.ref a]) Q E s:=by
 refine callType_new PySem.F.called_enumerate (by decide) (PySem.F.typeCall_enumerate_1 _) (PySem.F.newCall_enumerate_1 _) (fun obj=>PySem.F.args_object_init_2 obj _) PySem.F.entry_enumerate_new (meets_enumT a us) ⟨e1,?_⟩
 have m1:(zT1 s.heap a).objs.size=s.heap.objs.size+1:=Heap.size_push ..
 have q:IsEnum ((zT1 s.heap a).push { cls:=.type "enumerate",data:=.fields #[.none,.bool false,.ref s.heap.objs.size,rawInt 0,.none,.none] }) (zT1 s.heap a).objs.size s.heap.objs.size 0 .none:=Heap.get?_push_size _ rfl
 refine (show _/\_ from ?_)
 rw [m1] at q ⊢
 exact ⟨⟨_,q,rfl⟩,h _ q ⟨_,Heap.get?_push_of_some _ (Heap.get?_push_size _ rfl),rfl,rfl⟩ fun b o x=>Heap.get?_push_of_some _ (Heap.get?_push_of_some _ x)⟩
end
def Ite (K:PySem.W.Frag) (t:Addr):It:=⟨fun i H=>∃ xs a,SqT K H t xs/\xs[i]?=some a,
 fun i H x H'=>∃ T a,x=.ref T/\H T=none/\H'=upd H T (.tup [.int ((i:Nat):Int),a])/\∀ xs,SqT K H t xs->xs[i]?=some a,
 fun i H=>∃ xs,SqT K H t xs/\xs.length<=i⟩
theorem turn_enum {P:Program} {w:World} {K:PySem.W.Frag} {es:List Expr} {x1:Nat} {tpos:Pos} {z c t:Addr} (n1:c ≠ z) (n2:t ≠ z) (n3:t ≠ c) :
  Turn P w K (.Tuple es x1 tpos) (Ite K t) [z,c] z (fun i h=>(∃ old,IsEnum h z c ((i:Nat):Int) old)/\h.IsTupleIter c t i) where
 mem:=by simp
 obj:=fun i h st b hb=>by
  obtain ⟨⟨old,q1⟩,⟨o1,e1,_,d1⟩⟩:=st
  simp only [List.mem_cons,List.not_mem_nil,or_false] at hb
  rcases hb with rfl | rfl
  ·exact ⟨_,q1,fun v u=>nomatch u⟩
  ·exact ⟨_,e1,fun v u=>by rw [d1] at u;cases u⟩
 keep:=fun i h h' st kp=>by
  obtain ⟨⟨old,q1⟩,q4⟩:=st
  exact ⟨⟨old,kp z (by simp) _ q1⟩,q4.at fun o e=>kp c (by simp) o e⟩
 item:=by
  intro X hP hw hK hc i pins s σ H E I hf st hg
  subst hP hw hK
  obtain ⟨⟨old,q1⟩,q4⟩:=st
  obtain ⟨xs,a,hx,ex⟩:=hg
  obtain ⟨us,ru,pu,zu⟩:=I.tuple hx
  obtain ⟨u,eu,ra⟩:=ru.get ex
  refine enumT_next n1 n2 n3 q1 ⟨q4,pu⟩ (x:=u) (by simpa using eu) fun g g1 g3 g5 kp=>⟨_,rfl,?_⟩
  refine wpAny_letOwnedTupleGo_enum (s:={ s with heap:=g,toks:=s.toks+1 }) g1 fun h2 hz2 sb=>?_
  have lt:∀ {b o},s.heap.get? b=some o->s.heap.objs.size ≠ b:=fun e=>Nat.ne_of_gt (Heap.lt_size e)
  have kp2:∀ b o,b ∉ [z,c]->s.heap.get? b=some o->h2.get? b=some o:=fun b o n e=>by
   simp only [List.mem_cons,List.not_mem_nil,or_false,not_or] at n
   exact sb.extBut _ _ n.1 (kp b o n.1 n.2 e)
  have I1:Inv X pins σ H { s with heap:=h2,toks:=s.toks+1 }:=turnedL (t':=s.toks+1) I kp2 hf
  have T2:h2.get? s.heap.objs.size=some { cls:=.type "tuple",data:=.seq #[.int i s.toks,u] }:=sb.extBut _ _ (lt q1) g5
  have hN:H s.heap.objs.size=none:=I.hok.fresh (Nat.le_refl _)
  have I2:Inv X pins σ (upd H s.heap.objs.size (.tup [.int ((i:Nat):Int),a])) { s with heap:=h2,toks:=s.toks+1 }:=inv_track I1 (Heap.get?_none_of_le I.sz) (Nat.ne_of_gt I.lt)
   (fun y b ec=>by obtain ⟨_,o,ho,_⟩:=I.cell y b ec;exact Ne.symm (lt ho)) (fun p hp=>Ne.symm (lt (I.pin p hp).1)) hN
   ⟨few (by show 2<=_;omega),[.int i s.toks,u],.cons ⟨_,rfl⟩ (.cons ra .nil),⟨_,T2,rfl,0,rfl⟩⟩
  refine ⟨.ref s.heap.objs.size,_,I2,rfl,⟨_,a,rfl,hN,rfl,fun xs' hx'=>by rw [I.tuple_inj hx' hx];exact ex⟩,⟨⟨u,?_⟩,?_⟩,fun b hb=>?_⟩
  ·have e:((i+1:Nat):Int)=(i:Int)+1:=by omega
   rw [e];exact hz2
  ·exact g3.1.extBut sb.extBut n1
  ·have ne:b ≠ s.heap.objs.size:=by
    simp only [List.mem_cons,List.not_mem_nil,or_false] at hb
    obtain ⟨o1,e1,_⟩:=q4
    rcases hb with rfl | rfl
    ·exact Ne.symm (lt q1)
    ·exact Ne.symm (lt e1)
   rw [upd_ne ne];exact (hf b hb).1
 done:=by
  intro X hP hw hK hc i pins s σ H E I hf st hg
  subst hP hw hK
  obtain ⟨⟨old,q1⟩,q4⟩:=st
  obtain ⟨xs,hx,he⟩:=hg
  obtain ⟨us,ru,pu,zu⟩:=I.tuple hx
  have l1:=ru.length
  refine enumT_end (I.ok.hd hc) n3 q1 ⟨q4,pu⟩ (by simp;omega) fun g kp=>⟨rfl,turnedL (t':=s.toks) I (fun b o n e=>?_) hf⟩
  simp only [List.mem_cons,List.not_mem_nil,or_false,not_or] at n
  exact kp b o n.2 e
 self:=fun _ _ _ _ _ st h=>by
  obtain ⟨⟨old,q1⟩,_⟩:=st
  exact wpAny_pyIter_enum q1 h
section
variable {X:Cx} {es:List Expr} {x1:Nat} {tpos:Pos}
def iEnum (K:PySem.W.Frag) (ta:TA):TI:=fun σ H R=>ta σ H fun vs H1=>∃ t:Addr,vs=[.ref t]/\(∃ xs,SqT K H1 t xs)/\R (Ite K t) H1
theorem enum_apart {n t:Nat} (h:t < n):(n:Nat) ≠ n+1/\t ≠ n+1/\t ≠ n:=by omega
theorem pi_enum {a:Expr} {ta:TA} {p pos:Pos} (hg:Gl X "enumerate") (hm:X.mg "enumerate" = none) (ha:PA X [a] ta) (hs:starEach [a] X.env=[(false,eval a X.env)]:=by rfl) :
  PI X (.Tuple es x1 tpos) (.Call (.Name "enumerate" p) [a] [] pos) (iEnum X.K ta):=by
 intro pins s σ H R I h
 refine Call_ (ld_blt I hg hm PyProof.Rows.boot_enumerate (PyProof.Rows.callWith_type1 (thn (ha pos pins s σ H _ I h) fun us s1 ⟨vs,H1,I1,r1,q1⟩=>?_) (by rw [hs];rfl) (by rfl)))
 obtain ⟨t,e,⟨xs,hx⟩,q⟩:=q1
 subst e
 obtain ⟨u1,rfl,r1'⟩:=r1.one
 cases r1'
 obtain ⟨us,ru,pu,zu⟩:=I1.tuple hx
 refine call_enumT pu fun g g1 g4 kp=>?_
 refine wpAny_pyIter_enum (s:={ s1 with heap:=g }) g1 ?_
 have lt1:t < s1.heap.objs.size:=by obtain ⟨_,e,_⟩:=pu;exact Heap.lt_size e
 obtain ⟨m1,m2,m3⟩:=enum_apart lt1
 refine ⟨_,_,_,Ite X.K t,H1,rfl,I1.kept (t':=s1.toks) kp,turn_enum m1 m2 m3,⟨⟨_,g1⟩,g4⟩,fun b hb=>?_,q⟩
 have hb':s1.heap.objs.size<=b:=by
  simp only [List.mem_cons,List.not_mem_nil,or_false] at hb
  rcases hb with rfl | rfl
  ·exact Nat.le_add_right _ _
  ·exact Nat.le_refl _
 exact I1.fpOk hb' (I1.hok.fresh hb')
end
theorem for_enum {K:PySem.W.Frag} {a:Addr} {xs:List V} {g:TG} {tb:TS} {D:Ends} {σ:L2.St} {H:Hp} (Pv:Nat->L2.St->Hp->Prop) (h0:Pv 0 σ H) (hl:∀ i σ H,i<=xs.length->Pv i σ H->SqT K H a xs)
  (hs:∀ i x σ H T,xs[i]?=some x->Pv i σ H->H T=none->g (.ref T) σ (upd H T (.tup [.int ((i:Nat):Int),x])) fun σ2 H2=>tb { D with nx:=Pv (i+1),ct:=Pv (i+1),bk:=D.nx } σ2 H2) (hd:∀ σ H,Pv xs.length σ H->D.nx σ H) :
  ∃ W:Nat->Nat->L2.St->Hp->Prop,(∃ m,W 0 m σ H)/\∀ i m σ H,W i m σ H →
   ((Ite K a).stop i H/\D.nx σ H)\/((Ite K a).go i H/\∃ N:L2.St->Hp->Prop,(∀ σ' H',N σ' H'->∃ m',m' < m/\W (i+1) m' σ' H')/\∀ x H',(Ite K a).yld i H x H'->g x σ H' fun σ2 H2=>tb { D with nx:=N,ct:=N,bk:=D.nx } σ2 H2):=by
 refine ⟨fun i m σ H=>m=xs.length - i/\i<=xs.length/\Pv i σ H,⟨xs.length,by simp,Nat.zero_le _,h0⟩,?_⟩
 rintro i m σ H ⟨rfl,hi,p⟩
 have q:=hl i σ H hi p
 rcases Nat.lt_or_ge i xs.length with hlt | hge
 ·refine .inr ⟨⟨xs,xs[i],q,by simp [hlt]⟩,Pv (i+1),fun σ' H' p'=>⟨xs.length - (i+1),by omega,rfl,hlt,p'⟩,?_⟩
  rintro x H' ⟨T,a',rfl,hT,rfl,hx⟩
  exact hs i a' σ H T (hx xs q) p hT
 ·have e:i=xs.length:=by omega
  subst e
  exact .inl ⟨⟨xs,q,Nat.le_refl _⟩,hd σ H p⟩
end L3
namespace L3
open PySem PySem.Spec PyProof.Rows L2
theorem op_catH {X:Cx}:OpR X (binaryOp .Add) (fun x y H Q=>∃ (a b:Addr) (xs ys:List V),x=.ref a/\y=.ref b/\H a=some (.tup xs)/\H b=some (.tup ys)/\xs.length+ys.length<=sizeLine/\∀ (r:Addr) (H2:Hp),Same H H2->H2 r=some (.tup (xs++ys))->Q (.ref r) H2):=by
 intro pins s σ H x y v u Q I rx ry h
 obtain ⟨a,b,xs,ys,rfl,rfl,ha0,hb0,hz,q⟩:=h
 have ha:SqT X.K H a xs:=SqT.of ha0
 have hb:SqT X.K H b ys:=SqT.of hb0
 by_cases hx:xs=[]
 ·cases rx;cases ry
  obtain ⟨its,r1,p1,_⟩:=I.tuple ha
  obtain ⟨its2,r2,p2,_⟩:=I.tuple hb
  have hv:its=[]:=r1.nil_iff.mpr hx
  obtain ⟨⟨c1,dd1,data1,sl1⟩,o1,hc1,n1,hd1⟩:=id p1
  obtain ⟨⟨c2,dd2,data2,sl2⟩,o2,hc2,n2,hd2⟩:=id p2
  simp only at hc1 hd1 hc2 hd2
  subst hc1 hd1 hc2 hd2
  exact concat_meets ⟨_,o1,rfl⟩ ⟨_,o2,rfl⟩ noFill_tuple_add seq_tuple_add PySem.F.slot_tuple_add PySem.F.entry_tuple_add (PySem.F.args_tuple_add_2 _ _) (tuple_addW0 a b its.toArray its2.toArray n1 n2 dd1 dd2 sl1 sl2 (by simp [hv])) ⟨o1,o2,⟨.ref b,H,I,rfl,q b H (Same.refl H) (by rw [hx];exact hb0)⟩⟩
 ·exact op_catT pins s σ H _ _ v u Q I rx ry ⟨a,b,xs,ys,rfl,rfl,ha,hb,hx,hz,fun e=>q a H (Same.refl H) (by rw [e,List.append_nil];exact ha0),fun _ p hp=>q p _ (same_upd hp) upd_same⟩
end L3
namespace Vm
open PySem PySem.Spec PyProof.Rows L2 L3
def isGap:Sk->Bool
 | .add _=>true
 | .twice=>true
 | _=>false
def layPut:List (Option Str)->Nat->List Str->List (Option Str)
 | P,_,[]=>P
 | P,d,z :: zs=>layPut (P.set d (some z)) (d+1) zs
theorem layPut_len:∀ (zs:List Str) (P:List (Option Str)) (d:Nat),(layPut P d zs).length=P.length
 | [],_,_=>rfl
 | z :: zs,P,d=>by
  show (layPut (P.set d (some z)) (d+1) zs).length=_
  rw [layPut_len zs,List.length_set]
theorem layPut_snoc:∀ (zs:List Str) (P:List (Option Str)) (d:Nat) (z:Str),layPut P d (zs++[z])=(layPut P d zs).set (d+zs.length) (some z)
 | [],_,_,_=>rfl
 | y :: zs,P,d,z=>by
  show layPut (P.set d (some y)) (d+1) (zs++[z])=(layPut (P.set d (some y)) (d+1) zs).set _ _
  rw [layPut_snoc zs,List.length_cons,show d+1+zs.length=d+(zs.length+1) by omega]
theorem layPut_lt:∀ (zs:List Str) (P:List (Option Str)) (d k:Nat),k < d->(layPut P d zs)[k]?=P[k]?
 | [],_,_,_,_=>rfl
 | z :: zs,P,d,k,h=>by
  show (layPut (P.set d (some z)) (d+1) zs)[k]?=_
  rw [layPut_lt zs _ _ _ (by omega),List.getElem?_set_ne (by omega)]
theorem layPut_at:∀ (zs:List Str) (P:List (Option Str)) (d n:Nat),d+zs.length<=P.length->(∀ k,d<=k->(P[k]?).join=none)->((layPut P d zs)[d+n]?).join=zs[n]?
 | [],P,d,n,_,h=>by
  show (P[d+n]?).join=_
  rw [h _ (by omega)]
  rfl
 | z :: zs,P,d,0,hl,h=>by
  show ((layPut (P.set d (some z)) (d+1) zs)[d]?).join=_
  rw [List.length_cons] at hl
  rw [layPut_lt zs _ _ _ (by omega),List.getElem?_set_self (by omega)]
  rfl
 | z :: zs,P,d,n+1,hl,h=>by
  show ((layPut (P.set d (some z)) (d+1) zs)[d+(n+1)]?).join=_
  rw [List.length_cons] at hl
  rw [show d+(n+1)=d+1+n by omega,layPut_at zs _ (d+1) n (by rw [List.length_set];omega) (fun k hk=>by rw [List.getElem?_set_ne (by omega)];exact h k (by omega)),List.getElem?_cons_succ]
structure Lay where
 d:Nat
 l:Option Str
 P:List (Option Str)
 G:List (List Str)
def gAt (G:List (List Str)) (i:Nat):List Str:=(G[i]?).getD []
def lastOr (ws:List Str) (l:Option Str):Option Str:=match ws.getLast? with
 | some z=>some z
 | none=>l
def lay1 (es:List Str) (x:Lay) (st:Sk):Lay:=
 ⟨x.d+wd st,lastOr (ww es x.d x.l st) x.l,if isGap st=true then x.P else layPut x.P x.d (ww es x.d x.l st),if isGap st=true then x.G.set x.d (gAt x.G x.d++ww es x.d x.l st) else x.G⟩
def lay0 (n:Nat):Lay:=⟨0,none,List.replicate n none,List.replicate (n+1) []⟩
def layAll (es:List Str) (sts:List Sk):Lay:=sts.foldl (lay1 es) (lay0 es.length)
theorem fits_room {es:List Str} {d:Nat} {l:Option Str} {st:Sk} (h:fitsB es d l st=true) (hg:isGap st=false):d+(ww es d l st).length<=d+wd st/\(d<=es.length->d+(ww es d l st).length<=es.length):=by
 cases st with
 | add z=>cases hg
 | twice=>cases hg
 | keep=>
  have:=of_decide_eq_true (p:=d < es.length) h
  refine ⟨?_,fun _=>?_⟩
  ·show d+1<=d+1;omega
  ·show d+1<=es.length;omega
 | turn z=>
  have h1:(decide (d < es.length) && !decide (es[d]?=some z))=true:=h
  have:=of_decide_eq_true (Bool.and_eq_true_iff.mp h1).1
  refine ⟨?_,fun _=>?_⟩
  ·show d+1<=d+1;omega
  ·show d+1<=es.length;omega
 | lose=>
  refine ⟨?_,fun hd=>?_⟩
  ·show d+0<=d+1;omega
  ·show d+0<=es.length;omega
 | swap=>
  have h1:(decide (d+1 < es.length) && !decide (es[d]?=es[d+1]?))=true:=h
  have:=of_decide_eq_true (Bool.and_eq_true_iff.mp h1).1
  refine ⟨?_,fun _=>?_⟩
  ·show d+2<=d+2;omega
  ·show d+2<=es.length;omega
 | skip m=>
  refine ⟨?_,fun hd=>?_⟩
  ·show d+0<=d+m;omega
  ·show d+0<=es.length;omega
theorem gap_wd {st:Sk} (h:isGap st=true):wd st=0:=by
 cases st <;> first | rfl | cases h
def rd (P:List (Option Str)) (G:List (List Str)):Nat->List Str
 | 0=>[]
 | k+1=>rd P G k++gAt G k++((P[k]?).join).toList
theorem rd_congr {P P':List (Option Str)} {G G':List (List Str)}:∀ k:Nat,(∀ i,i < k->P[i]?=P'[i]?/\G[i]?=G'[i]?)->rd P G k=rd P' G' k
 | 0,_=>rfl
 | k+1,h=>by
  obtain ⟨h1,h2⟩:=h k (Nat.lt_succ_self k)
  show rd P G k++gAt G k++((P[k]?).join).toList=rd P' G' k++gAt G' k++((P'[k]?).join).toList
  rw [rd_congr k fun i hi=>h i (by omega),h1]
  unfold gAt
  rw [h2]
theorem take_opt (ws:List Str) (n:Nat):ws.take (n+1)=ws.take n++(ws[n]?).toList:=List.take_succ
theorem rd_put {P:List (Option Str)} {G:List (List Str)} {d:Nat} {ws:List Str} (hl:d+ws.length<=P.length) (hP:∀ k,d<=k->(P[k]?).join=none) (hG:∀ k,d < k->gAt G k=[]):∀ n:Nat,rd (layPut P d ws) G (d+n)++gAt G (d+n)=rd P G d++gAt G d++ws.take n
 | 0=>by
  rw [List.take_zero,List.append_nil,Nat.add_zero,rd_congr (P':=P) (G':=G) d fun i hi=>⟨layPut_lt _ _ _ _ hi,rfl⟩]
 | n+1=>by
  show rd (layPut P d ws) G (d+n)++gAt G (d+n)++(((layPut P d ws)[d+n]?).join).toList++gAt G (d+(n+1))=_
  rw [rd_put hl hP hG n,layPut_at _ _ _ _ hl hP,hG (d+(n+1)) (by omega),List.append_nil,take_opt,List.append_assoc]
structure GapsAt (H:Hp) (gs:List Addr) (G:List (List Str)):Prop where
 len:gs.length=G.length
 item:∀ (i:Nat) (g:Addr) (z:List Str),gs[i]?=some g->G[i]?=some z->H g=some (.tup (z.map V.str))
theorem GapsAt.mono {H H':Hp} {gs:List Addr} {G:List (List Str)} (S:Same H H') (h:GapsAt H gs G):GapsAt H' gs G:=⟨h.len,fun i g z e1 e2=>S _ _ (h.item i g z e1 e2)⟩
theorem GapsAt.over {H:Hp} {gs:List Addr} {G:List (List Str)} {l:Addr} {xs:List V} {o:HO} (h:GapsAt H gs G) (hl:H l=some (.lst xs)):GapsAt (upd H l o) gs G:=
 ⟨h.len,fun i g z e1 e2=>by
  have:=h.item i g z e1 e2
  rw [upd_ne (fun e=>by rw [e,hl] at this;cases this)]
  exact this⟩
theorem GapsAt.put {H:Hp} {gs:List Addr} {G:List (List Str)} {d:Nat} {r:Addr} {z:List Str} (h:GapsAt H gs G) (hr:H r=some (.tup (z.map V.str))):GapsAt H (gs.set d r) (G.set d z):=
 ⟨by rw [List.length_set,List.length_set,h.len],fun i g y e1 e2=>by
  by_cases e:d=i
  ·subst e
   have hi:d < gs.length:=by
    have:=(List.getElem?_eq_some_iff.mp e1).1
    rw [List.length_set] at this
    exact this
   rw [List.getElem?_set_self hi] at e1
   rw [List.getElem?_set_self (by rw [<-h.len];exact hi)] at e2
   cases e1
   cases e2
   exact hr
  ·rw [List.getElem?_set_ne e] at e1 e2
   exact h.item i g y e1 e2⟩
theorem GapsAt.rep {H:Hp} {g:Addr} (n:Nat) (h:H g=some (.tup [])):GapsAt H (List.replicate n g) (List.replicate n []):=
 ⟨by rw [List.length_replicate,List.length_replicate],fun i a z e1 e2=>by
  rw [List.eq_of_mem_replicate (List.mem_of_getElem? e1),List.eq_of_mem_replicate (List.mem_of_getElem? e2)]
  exact h⟩
theorem GapsAt.at {H:Hp} {gs:List Addr} {G:List (List Str)} {i:Nat} (h:GapsAt H gs G) (hi:i < G.length):∃ g,gs[i]?=some g/\atI (gs.map V.ref) ((i:Nat):Int)=some (.ref g)/\H g=some (.tup ((gAt G i).map V.str)):=by
 have hi':i < gs.length:=by rw [h.len];exact hi
 refine ⟨gs[i],List.getElem?_eq_getElem hi',atI_nat (by rw [List.getElem?_map,List.getElem?_eq_getElem hi'];rfl),h.item i _ _ (List.getElem?_eq_getElem hi') ?_⟩
 unfold gAt
 rw [List.getElem?_eq_getElem hi]
 rfl
end Vm
namespace Vm
open PySem PySem.Spec PyProof.Rows L2 L3
theorem best_ge (val:Nat->Int):∀ k j,j<=k->val j<=val (argBest (fun a b=>decide (val a > val b)) k)
 | 0,j,h=>by rw [show j=0 by omega];exact Int.le_refl _
 | k+1,j,h=>by
  have ih:=best_ge val k
  show val j<=val (if decide (val (k+1) > val (argBest (fun a b=>decide (val a > val b)) k))=true then k+1 else argBest (fun a b=>decide (val a > val b)) k)
  by_cases hb:val (k+1) > val (argBest (fun a b=>decide (val a > val b)) k)
  ·rw [if_pos (decide_eq_true hb)]
   by_cases e:j=k+1
   ·rw [e];exact Int.le_refl _
   ·have:=ih j (by omega);omega
  ·rw [if_neg (by rw [decide_eq_false hb];exact Bool.false_ne_true)]
   by_cases e:j=k+1
   ·rw [e];omega
   ·exact ih j (by omega)
theorem maxD_turn {pr:Program} {wd:World} {A:Around} {R:Result->Shared->Prop} {I:Addr} {fp wr:List Addr} {n:Nat} {Pp:Nat->Value->Prop} {Sp':Nat->Heap->Prop} (d:Value) (T:Walks pr wd A.in1 I fp wr n Pp Sp') (bt:Nat->Nat->Bool) (hb:CmpOf pr wd A.in1 .Gt Pp bt) (B:Addr) (hB:B ∉ fp) :
  ∀ (k j:Nat) (s:Shared) (u:Value) (c:Nat),n - (j+1)=k->j+1<=n->Sp' (j+1) s.heap->Pp (argBest bt j) u->s.heap.get? B=some ⟨.type "list",none,.seq #[u,u] c,#[]⟩ →
   (∀ v h2 tk,Pp (argBest bt (n - 1)) v->(∀ b o,b ∉ wr->b ≠ B->s.heap.get? b=some o->h2.get? b=some o)->R (.ok (.ret v)) { s with heap:=h2,toks:=tk }) →
   codeAny (model pr wd) A (.builtin "max.loop" ⟨[.ref I,.none,.ref B],[(Str.ofString "default",d)]⟩) R s:=by
 have hw:B ∉ wr:=fun h=>hB (T.sub _ h)
 have nm:(toString "max"++toString ".loop" : String) = "max.loop" := by decide
 intro k
 induction k with
 | zero=>
  intro j s u c hk hj hst hu hS hR
  have e1:j+1=n:=by omega
  refine codeAny_builtin PySem.F.entry_max_loop ?_;rw [Around.under_plainId PySem.F.plain_max_loop _]
  show wpAny _ A.in1 (seqItems? (.ref B) >>= _) _ _ s;refine wpAny_bind (wpAny_seqItems hS rfl ?_)
  show wpAny _ A.in1 (tryCatch (pyNext (.ref I)) _ >>= _) _ _ s;refine wpAny_bind (wpAny_tryCatch (T.done s _ _ (e1 ▸ hst) fun h2 tk hk2=>?_))
  have hS2:=hk2 B _ hw hS
  show wpAny _ A.in1 (updateSeq B (fun _=>#[]) >>= _) _ _ _;refine wpAny_bind (wpAny_updateSeq hS2 rfl (wpAny_bind (wpAny_letGo (wpAny_pure ?_))))
  exact hR u _ tk (by rw [<-e1];exact hu) fun b o bw bS e=>(Heap.get?_update_other _ _ (Ne.symm bS)).trans (hk2 b o bw e)
 | succ k ih=>
  intro j s u c hk hj hst hu hS hR
  have lt:j+1 < n:=by omega
  refine codeAny_builtin PySem.F.entry_max_loop ?_;rw [Around.under_plainId PySem.F.plain_max_loop _]
  show wpAny _ A.in1 (seqItems? (.ref B) >>= _) _ _ s;refine wpAny_bind (wpAny_seqItems hS rfl ?_)
  show wpAny _ A.in1 (tryCatch (pyNext (.ref I)) _ >>= _) _ _ s;refine wpAny_bind (wpAny_tryCatch (T.item (j+1) s _ _ lt hst fun v h2 tk hv hst2 hk2=>?_))
  have hS2:=hk2 B _ hw hS
  show wpAny _ A.in1 (tryCatch (holding [v,v] (richCompare .Gt v u >>= _)) _ >>= _) _ _ _;refine wpAny_bind (wpAny_tryCatch (wpAny_holding (wpAny_bind (hb (j+1) (argBest bt j) v u _ _ _ hv hu ?_))))
  refine wpAny_bind (wpAny_holding (wpAny_truthy_bool (wpAny_bind (wpAny_letGo (wpAny_pure ?_)))))
  cases hbt:bt (j+1) (argBest bt j) with
  | true=>
   simp only [if_true];refine wpAny_bind (wpAny_updateSeq hS2 rfl (wpAny_bind (wpAny_letGo ?_)));rw [nm]
   refine wpAny_pure ⟨plainId_quiet PySem.F.plain_max_loop _,ih (j+1) _ v _ (by omega) lt (T.frame _ _ _ hst2 fun b bf o e=>?_) (by simp only [argBest,hbt,if_true];exact hv) (Heap.get?_update_self _ hS2 rfl) fun v3 h3 tk3 hv3 hk3=>?_⟩
   ·exact (Heap.get?_update_other _ _ (fun h:B=b=>hB (by rw [h];exact bf))).trans e
   ·exact hR v3 h3 tk3 hv3 fun b o bw bS e=>hk3 b o bw bS ((Heap.get?_update_other _ _ (Ne.symm bS)).trans (hk2 b o bw e))
  | false=>
   simp only [Bool.false_eq_true,if_false];refine wpAny_bind (wpAny_letGo ?_);rw [nm]
   refine wpAny_pure ⟨plainId_quiet PySem.F.plain_max_loop _,ih (j+1) _ u c (by omega) lt hst2 (by simp only [argBest,hbt,Bool.false_eq_true,if_false];exact hu) hS2 fun v3 h3 tk3 hv3 hk3=>?_⟩
   exact hR v3 h3 tk3 hv3 fun b o bw bS e=>hk3 b o bw bS (hk2 b o bw e)
theorem maxD_first {pr:Program} {wd:World} {A:Around} {R:Result->Shared->Prop} {I:Addr} {fp wr:List Addr} {n:Nat} {Pp:Nat->Value->Prop} {Sp':Nat->Heap->Prop} (d:Value) (T:Walks pr wd A.in1 I fp wr n Pp Sp') (bt:Nat->Nat->Bool) (hb:CmpOf pr wd A.in1 .Gt Pp bt) (B:Addr) (hB:B ∉ fp) {s:Shared} {c:Nat} (hst:Sp' 0 s.heap)
  (hS:s.heap.get? B=some ⟨.type "list",none,.seq #[] c,#[]⟩)
  (h0:n=0->∀ h2 tk,(∀ b o,b ∉ wr->b ≠ B->s.heap.get? b=some o->h2.get? b=some o)->R (.ok (.ret d)) { s with heap:=h2,toks:=tk })
  (hR:0 < n->∀ v h2 tk,Pp (argBest bt (n - 1)) v->(∀ b o,b ∉ wr->b ≠ B->s.heap.get? b=some o->h2.get? b=some o)->R (.ok (.ret v)) { s with heap:=h2,toks:=tk }) :
  codeAny (model pr wd) A (.builtin "max.loop" ⟨[.ref I,.none,.ref B],[(Str.ofString "default",d)]⟩) R s:=by
 have hw:B ∉ wr:=fun h=>hB (T.sub _ h)
 have nm:(toString "max"++toString ".loop" : String) = "max.loop" := by decide
 refine codeAny_builtin PySem.F.entry_max_loop ?_;rw [Around.under_plainId PySem.F.plain_max_loop _]
 show wpAny _ A.in1 (seqItems? (.ref B) >>= _) _ _ s;refine wpAny_bind (wpAny_seqItems hS rfl ?_)
 show wpAny _ A.in1 (tryCatch (pyNext (.ref I)) _ >>= _) _ _ s
 by_cases hn:n=0
 ·refine wpAny_bind (wpAny_tryCatch (T.done s _ _ (hn ▸ hst) fun h2 tk hk2=>?_))
  show wpAny _ A.in1 (rule _ >>= _) _ _ _
  refine wpAny_bind (wpAny_rule (wpAny_pure ?_))
  exact h0 hn h2 tk fun b o bw _ e=>hk2 b o bw e
 ·have hn:0 < n:=by omega
  refine wpAny_bind (wpAny_tryCatch (T.item 0 s _ _ hn hst fun v h2 tk hv hst2 hk2=>?_))
  have hS2:=hk2 B _ hw hS
  show wpAny _ A.in1 (updateSeq B (fun _=>#[v,v]) >>= _) _ _ _;refine wpAny_bind (wpAny_updateSeq hS2 rfl ?_);rw [nm]
  refine wpAny_pure ⟨plainId_quiet PySem.F.plain_max_loop _,maxD_turn d T bt hb B hB _ 0 _ v _ rfl hn (T.frame _ _ _ hst2 fun b bf o e=>?_) hv (Heap.get?_update_self _ hS2 rfl) fun v3 h3 tk3 hv3 hk3=>?_⟩
  ·exact (Heap.get?_update_other _ _ (fun h:B=b=>hB (by rw [h];exact bf))).trans e
  ·exact hR hn v3 h3 tk3 hv3 fun b o bw bS e=>hk3 b o bw bS ((Heap.get?_update_other _ _ (Ne.symm bS)).trans (hk2 b o bw e))
theorem args_maxD (a v:Value):argsOk "max" ⟨[a],[(Str.ofString "default",v)]⟩:=by unfold argsOk;kernel_rfl
theorem maxD_call {pr:Program} {wd:World} {A:Around} {E:Value->Shared->Prop} {s:Shared} {x d:Value} {Q:Value->Shared->Prop}
  (h:wpAny (model pr wd) A.in1 (pyIter x) (fun it s2=>∃ I fp wr n Pp Sp' bt,it=.ref I/\Walks pr wd A.in1 I fp wr n Pp Sp'/\Sp' 0 s2.heap/\(∀ b ∈ fp,b < s2.heap.objs.size)/\CmpOf pr wd A.in1 .Gt Pp bt ∧
   (n=0->∀ h2 tk,(∀ b o,b ∉ wr->s2.heap.get? b=some o->h2.get? b=some o)->Q d { s2 with heap:=h2,toks:=tk }) ∧
   (0 < n->∀ v h2 tk,Pp (argBest bt (n - 1)) v->(∀ b o,b ∉ wr->s2.heap.get? b=some o->h2.get? b=some o)->Q v { s2 with heap:=h2,toks:=tk })) E s) :
  wpAny (model pr wd) A (call (.builtin "max") [x] [(Str.ofString "default",d)]) Q E s:=by
 have nm:(toString "max"++toString ".loop" : String) = "max.loop" := by decide
 refine kmb_tree PySem.F.kind_max PySem.F.plain_max PySem.F.entry_max (args_maxD _ _) ?_
 show wpAny _ A.in1 (Builtin.Builtins.bindParams "max" ["key","default"] 0 ⟨[],[(Str.ofString "default",d)]⟩ >>= _) _ _ s
 refine wpAny_bind (wpAny_of_eq (show Builtin.Builtins.bindParams "max" ["key","default"] 0 ⟨[],[(Str.ofString "default",d)]⟩=pure [none,some d] from rfl) (wpAny_bind (wpAny_pure ?_)))
 refine wpAny_bind (wpAny_mono h (fun it s2 g=>?_) fun _ _ e=>e)
 obtain ⟨I,fp,wr,n,Pp,Sp',bt,rfl,T,hst,hfp,hb,g0,g1⟩:=g
 refine wpAny_bind (wpAny_newObj_type ?_);rw [nm]
 have nB:s2.heap.objs.size ∉ fp:=fun hm=>Nat.lt_irrefl _ (hfp _ hm)
 refine wpAny_pure ⟨plainId_quiet PySem.F.plain_max_loop _,maxD_first d T bt hb s2.heap.objs.size nB (T.frame _ _ _ hst fun b _ o e=>Heap.get?_push_of_some _ e) (Heap.get?_push_size _ rfl) (fun hn h2 tk hk=>?_) fun hn v h2 tk hv hk=>?_⟩
 ·exact g0 hn h2 tk fun b o bw e=>hk b o bw (Nat.ne_of_lt (Heap.lt_size e)) (Heap.get?_push_of_some _ e)
 ·exact g1 hn v h2 tk hv fun b o bw e=>hk b o bw (Nat.ne_of_lt (Heap.lt_size e)) (Heap.get?_push_of_some _ e)
section
variable {X:Cx}
def rMaxD (K:PySem.W.Frag):V->Hp->VK->Prop:=fun x H Q=>∃ (p:Addr) (ns:List Int),x=.ref p/\SqL K H p (ns.map V.int)/\(ns=[]->Q (.int 0) H)/\∀ m ∈ ns,(∀ n ∈ ns,n<=m)->Q (.int m) H
def tMaxD (K:PySem.W.Frag) (te:TE):TE:=fun σ H Q=>te σ H fun x H1=>rMaxD K x H1 Q
theorem pe_maxD {e:Expr} {te:TE} {p pos cp kp:Pos} {cj:Nat} (hc:X.calm=true) (hg:Gl X "max") (hm:X.mg "max" = none) (he:PE X e te) (hs:starEach [e] X.env=[(false,eval e X.env)]:=by rfl) :
  PE X (.Call (.Name "max" p) [e] [⟨some "default",.Constant (.int 0) cj cp,kp⟩] pos) (tMaxD X.K te):=by
 intro pins s σ H Q I h
 refine wpAny_Call_Name_kw (ld_blt I hg hm boot_max ?_ (by decide) (by decide))
 have hpa:PA X [e] (tCons te tNil):=pa_cons he pa_nil hs
 refine callWith_kw (thn (hpa pos pins s σ H (fun xs H1=>match xs with | [x]=>rMaxD X.K x H1 Q | _=>False) I h) fun us s1 ⟨vs,H1,I1,r1,q1⟩=>?_) (by rw [hs];rfl) (by rw [hs];rfl) rfl rfl
 match vs,r1,q1 with
 | [x],r1,q1=>
  obtain ⟨u,rfl,ru⟩:=r1.one
  refine kws_cons (thn (pe_int pins s1 σ H1 (fun y H2=>y=V.int 0/\rMaxD X.K x H2 Q) I1 ⟨rfl,q1⟩) fun d s2 ⟨y,H2,I2,ry,ey,p,ns,ex,hq,q0,qm⟩=>kws_nil ?_)
  subst ey ex
  obtain ⟨td,rfl⟩:=ry
  cases ru
  show wpAny _ _ (call (.builtin "max") [.ref p] [(Str.ofString "default",Value.int 0 td)]) _ _ _
  obtain ⟨its,rv,hp,hz⟩:=I2.list hq
  have hlt:p < s2.heap.objs.size:=by obtain ⟨_,e,_⟩:=hp.isList;exact Heap.lt_size e
  have el:its.toArray.size=ns.length:=by rw [List.size_toArray,<-rv.length,List.length_map]
  have hval:∀ (i:Nat) (v:Value),its.toArray[i]?=some v->∃ t,v=.int (ns.getD i 0) t:=fun i v hv=>by
   have hv':its[i]?=some v:=by simpa using hv
   have hi:i < ns.length:=by
    have:=(List.getElem?_eq_some_iff.mp hv').1
    rw [<-el,List.size_toArray];exact this
   obtain ⟨u,hu,ru⟩:=rv.get (i:=i) (x:=V.int ns[i]) (by rw [List.getElem?_map,List.getElem?_eq_getElem hi];rfl)
   rw [hv'] at hu;cases hu
   obtain ⟨t,rfl⟩:=ru
   exact ⟨t,by show Value.int ns[i] t=Value.int (ns.getD i 0) t;rw [List.getD_eq_getElem?_getD,List.getElem?_eq_getElem hi];rfl⟩
  refine maxD_call (wpAny_pyIter_list hp.isList ?_)
  refine ⟨s2.heap.objs.size,[s2.heap.objs.size,p],[s2.heap.objs.size],its.toArray.size,_,_,fun a b=>decide (ns.getD a 0 > ns.getD b 0),rfl,Walks.list (A:=X.A.in1) (I2.ok.hd hc) _ _ (Nat.ne_of_lt hlt) its.toArray,⟨⟨_,Heap.get?_push_size _ rfl,rfl,rfl⟩,hp.isList.push _⟩,?_,CmpOf.ints_gt (fun i=>ns.getD i 0) hval,?_,?_⟩
  ·intro b hb
   simp only [List.mem_cons,List.not_mem_nil,or_false] at hb
   rw [Heap.size_push]
   rcases hb with rfl | rfl
   ·exact Nat.lt_succ_self _
   ·exact Nat.lt_succ_of_lt hlt
  ·intro hn h2 tk hk
   exact ⟨.int 0,H2,I2.kept fun b o e=>hk b o (fun z=>absurd (Heap.lt_size e) (by rw [List.mem_singleton.mp z];exact Nat.lt_irrefl _)) (Heap.get?_push_of_some _ e),⟨_,rfl⟩,q0 (List.length_eq_zero_iff.mp (by omega))⟩
  ·intro hn v h2 tk hv hk
   obtain ⟨t,rfl⟩:=hval _ _ hv
   have hb:=best_in (fun a b=>decide (ns.getD a 0 > ns.getD b 0)) (its.toArray.size - 1)
   have hle:=best_ge (fun i=>ns.getD i 0) (its.toArray.size - 1)
   generalize argBest (fun a b=>decide (ns.getD a 0 > ns.getD b 0)) (its.toArray.size - 1)=k at hb hle hv
   have hkl:k < ns.length:=by omega
   refine ⟨.int (ns.getD k 0),H2,I2.kept fun b o e=>hk b o (fun z=>absurd (Heap.lt_size e) (by rw [List.mem_singleton.mp z];exact Nat.lt_irrefl _)) (Heap.get?_push_of_some _ e),⟨_,rfl⟩,qm _ ?_ fun m hm=>?_⟩
   ·rw [List.getD_eq_getElem?_getD,List.getElem?_eq_getElem hkl];exact List.getElem_mem hkl
   ·obtain ⟨j,hj,rfl⟩:=List.mem_iff_getElem.mp hm
    have:=hle j (by omega)
    rw [List.getD_eq_getElem?_getD (i:=j),List.getElem?_eq_getElem hj] at this
    exact this
end
end Vm
namespace Vm
open PySem PySem.Spec PyProof.Rows L2 L3
theorem tjoin (sep:Str) (ws:List Str):Txt.join sep ws=Str.join sep ws:=by
 show Builtin.Str.glued sep ws=_
 exact StrLaws.glued_eq_join ..
theorem join_len (sep:Str):∀ ws:List Str,(Str.join sep ws).length<=(ws.map (·.length)).sum+ws.length * sep.length
 | []=>Nat.zero_le _
 | [z]=>by
  show z.length<=_
  simp
 | z :: y :: r=>by
  have ih:=join_len sep (y :: r)
  show (z++sep++Str.join sep (y :: r)).length<=_
  rw [app_len,app_len,List.map_cons,List.sum_cons,List.length_cons,Nat.succ_mul]
  omega
theorem sum_le {ws:List Str} {b:Nat} (h:∀ z ∈ ws,z.length<=b):(ws.map (·.length)).sum<=ws.length * b:=by
 induction ws with
 | nil=>simp
 | cons z r ih=>
  have:=ih fun y hy=>h y (List.mem_cons_of_mem _ hy)
  have:=h z (List.mem_cons_self ..)
  rw [List.map_cons,List.sum_cons,List.length_cons,Nat.succ_mul]
  omega
theorem join_le {sep:Str} {ws:List Str} {b:Nat} (h:∀ z ∈ ws,z.length<=b):(Str.join sep ws).length<=ws.length * b+ws.length * sep.length:=by
 have:=join_len sep ws
 have:=sum_le h
 omega
theorem numS_le {m k:Nat} (h:m < 10 ^ (k+1)):(numS ((m:Nat):Int)).length<=k+1:=by
 rw [<-clen,numS_list,List.length_map]
 exact digits_le k m h
theorem comp_pair {α:Type} {K:PySem.W.Frag} {J:It} {H:Hp} {as:List α} {v:α->V} {x y:α->V} (e:α->V) {te:TE} {Q:VK} {rest:L2.St} (S:Src J H (as.map v)) (hz:as.length<=sizeLine)
  (hp:∀ a ∈ as,∃ p,v a=.ref p/\SqT K H p [x a,y a]) (he:∀ a ∈ as,∀ k:VK,k (e a) H->te (some (x a) :: some (y a) :: rest) H k)
  (hq:∀ D,H D=none->Q (.ref D) (upd H D (.lst (as.map e)))):wComp J (gTup K 2 (gCons (gName 0) (gCons (gName 1) gNil))) tYes te Q (none :: none :: rest) H:=by
 refine ⟨fun i m σ acc H'=>H'=H/\i<=as.length/\m=as.length - i/\acc=(as.take i).map e/\∃ o1 o2,σ=o1 :: o2 :: rest,⟨as.length,rfl,Nat.zero_le _,rfl,by simp,none,none,rfl⟩,?_⟩
 rintro i m σ acc H' ⟨rfl,hi,rfl,rfl,o1,o2,rfl⟩
 have hacc:((as.take i).map e).length<=i:=by
  rw [List.length_map,List.length_take];exact Nat.min_le_left _ _
 by_cases hlt:i < as.length
 ·refine .inr ⟨S.go i (by rw [List.length_map];exact hlt),fun w H1 yl=>?_⟩
  obtain ⟨rfl,hx⟩:=S.yld i w H1 (by rw [List.length_map];exact hlt) yl
  rw [List.getElem?_map,List.getElem?_eq_getElem hlt] at hx
  have hx':v as[i]=w:=Option.some.inj hx
  subst hx'
  have hm:as[i] ∈ as:=List.getElem_mem hlt
  obtain ⟨p,ep,hpp⟩:=hp _ hm
  have ts:as.take (i+1)=as.take i++[as[i]]:=List.take_succ_eq_append_getElem hlt
  refine ⟨p,_,ep,hpp,rfl,_,_,rfl,_,_,rfl,rfl,?_⟩
  show te (some (x as[i]) :: some (y as[i]) :: rest) H1 _
  refine he _ hm _ ⟨by omega,as.length - (i+1),by omega,rfl,hlt,rfl,?_,_,_,rfl⟩
  rw [ts,List.map_append]
  rfl
 ·have ei:i=as.length:=by omega
  subst ei
  refine .inl ⟨S.stop _ (by rw [List.length_map];exact Nat.le_refl _),by omega,fun D hD=>?_⟩
  rw [List.take_length]
  exact hq D hD
def Ent (v:V):Prop:=v=.non\/∃ z,Good z/\v=.str z
def ColsAt (H:Hp) (cs:List (Addr × List V)) (m:Nat):Prop:=∀ x ∈ cs,H x.1=some (.tup x.2)/\x.2.length=m/\∀ e ∈ x.2,Ent e
theorem ColsAt.mono {H H':Hp} {cs:List (Addr × List V)} {m:Nat} (S:Same H H') (h:ColsAt H cs m):ColsAt H' cs m:=fun x hx=>⟨S _ _ (h x hx).1,(h x hx).2⟩
def entS:V->Str
 | .str z=>z
 | _=>Str.ofString "-"
theorem ent_len {v:V} (h:Ent v):(entS v).length<=12:=by
 rcases h with rfl | ⟨z,hz,rfl⟩
 ·show (Str.ofString "-").length<=12;decide +kernel
 ·exact hz.hi
theorem ent_flat {v:V} (h:Ent v):flatV v=true:=by
 rcases h with rfl | ⟨z,hz,rfl⟩ <;> rfl
theorem ent_scal {v u:V} (h:Ent v) (h2:Ent u):scal v u=true:=by
 rcases h with rfl | ⟨z,hz,rfl⟩ <;> rcases h2 with rfl | ⟨y,hy,rfl⟩ <;> rfl
abbrev Rdg:=V × List Nat
def natV (n:Nat):V:=.int ((n:Nat):Int)
def rdgS (x:Rdg):Str:=entS x.1++Str.ofString " "++Str.join (Str.ofString ",") (x.2.map fun n=>numS ((n:Nat):Int))
def RdgOk (x:Rdg):Prop:=Ent x.1/\x.2.length<=30/\∀ n ∈ x.2,n < 30
def RdgAt (H:Hp) (t:Addr) (x:Rdg):Prop:=RdgOk x/\∃ r,H t=some (.tup [x.1,.ref r])/\H r=some (.tup (x.2.map natV))
theorem RdgAt.mono {H H':Hp} {t:Addr} {x:Rdg} (S:Same H H') (h:RdgAt H t x):RdgAt H' t x:=by
 obtain ⟨ho,r,h1,h2⟩:=h
 exact ⟨ho,r,S _ _ h1,S _ _ h2⟩
theorem rows_len {x:Rdg} (h:RdgOk x):(Str.join (Str.ofString ",") (x.2.map fun n=>numS ((n:Nat):Int))).length<=100:=by
 have h1:=join_le (sep:=Str.ofString ",") (ws:=x.2.map fun n=>numS ((n:Nat):Int)) (b:=2) fun z hz=>by
  obtain ⟨n,hn,rfl⟩:=List.mem_map.mp hz
  exact numS_le (k:=1) (by have:=h.2.2 n hn;omega)
 have h2:(Str.ofString ",").length=1:=by decide +kernel
 rw [h2,List.length_map] at h1
 have:=h.2.1
 omega
theorem rdg_len {x:Rdg} (h:RdgOk x):(rdgS x).length<=113:=by
 have h1:=rows_len h
 have h2:(Str.ofString " ").length=1:=by decide +kernel
 have h3:=ent_len h.1
 unfold rdgS
 rw [app_len,app_len,h2]
 omega
abbrev Note:=Nat × List (Addr × Rdg)
def noteS (x:Note):Str:=numS ((x.1:Nat):Int)++Str.ofString ": "++Str.join (Str.ofString "; ") (x.2.map fun y=>rdgS y.2)
def NoteAt (H:Hp) (t:Addr) (x:Note):Prop:=x.1 < 10000/\x.2.length<=30/\(∀ y ∈ x.2,RdgAt H y.1 y.2)/\∃ q,H t=some (.tup [natV x.1,.ref q])/\H q=some (.tup (x.2.map fun y=>V.ref y.1))
theorem NoteAt.mono {H H':Hp} {t:Addr} {x:Note} (S:Same H H') (h:NoteAt H t x):NoteAt H' t x:=by
 obtain ⟨h1,h2,h3,q,h4,h5⟩:=h
 exact ⟨h1,h2,fun y hy=>(h3 y hy).mono S,q,S _ _ h4,S _ _ h5⟩
theorem rdgs_len {xs:List (Addr × Rdg)} (h:∀ y ∈ xs,RdgOk y.2) (hn:xs.length<=30):(Str.join (Str.ofString "; ") (xs.map fun y=>rdgS y.2)).length<=3450:=by
 have h1:=join_le (sep:=Str.ofString "; ") (ws:=xs.map fun y=>rdgS y.2) (b:=113) fun z hz=>by
  obtain ⟨y,hy,rfl⟩:=List.mem_map.mp hz
  exact rdg_len (h y hy)
 have h2:(Str.ofString "; ").length=2:=by decide +kernel
 rw [h2,List.length_map] at h1
 omega
theorem note_len {H:Hp} {t:Addr} {x:Note} (h:NoteAt H t x):(noteS x).length<=3500:=by
 have h1:=rdgs_len (xs:=x.2) (fun y hy=>(h.2.2.1 y hy).1) h.2.1
 have h2:(Str.ofString ": ").length=2:=by decide +kernel
 have h3:=numS_le (m:=x.1) (k:=3) (by have:=h.1;omega)
 unfold noteS
 rw [app_len,app_len,h2]
 omega
def headS (es:List V):Str:=Str.join (Str.ofString " | ") (es.map entS)
theorem head_len {es:List V} (h:∀ e ∈ es,Ent e):(headS es).length<=15 * es.length:=by
 have h1:=join_le (sep:=Str.ofString " | ") (ws:=es.map entS) (b:=12) fun z hz=>by
  obtain ⟨e,he,rfl⟩:=List.mem_map.mp hz
  exact ent_len (h e he)
 have h2:(Str.ofString " | ").length=3:=by decide +kernel
 rw [h2,List.length_map] at h1
 unfold headS
 omega
def appS (es:List V) (ns:List (Addr × Note)):Str:=Str.join (Str.ofString "\n") (headS es :: ns.map fun y=>noteS y.2)
end Vm
namespace L3
open PySem PySem.Spec PyProof.Rows L2
theorem relabel_back2 {env:Env} {x:Str}:∀ {names:List (Str × NameKind)},
  ((names.map fun (n,k)=>if (k == NameKind.free && env.scope.kind == .function && env.kindOf n == some .cell) then (n,NameKind.cell) else (n,k)).lookup x=some .cell ∨
   (names.map fun (n,k)=>if (k == NameKind.free && env.scope.kind == .function && env.kindOf n == some .cell) then (n,NameKind.cell) else (n,k)).lookup x=some .free)->names.lookup x=some .free\/names.lookup x=some .cell
 | [],h=>by rcases h with h | h <;> (rw [List.map_nil,List.lookup_nil] at h;cases h)
 | (n,k) :: r,h=>by
  have ih:=relabel_back2 (env:=env) (x:=x) (names:=r)
  rw [List.map_cons] at h
  rw [List.lookup_cons]
  cases hx:x == n with
  | true=>
   dsimp only
   by_cases hq:(k == NameKind.free && env.scope.kind == .function && env.kindOf n == some .cell)=true
   ·rw [Bool.and_eq_true,Bool.and_eq_true] at hq
    rw [beq_iff_eq.mp hq.1.1]
    exact .inl rfl
   ·dsimp only at h
    rw [if_neg hq] at h
    rw [List.lookup_cons,hx] at h
    dsimp only at h
    exact h.symm
  | false=>
   dsimp only
   refine ih ?_
   dsimp only at h
   by_cases hq:(k == NameKind.free && env.scope.kind == .function && env.kindOf n == some .cell)=true
   ·rw [if_pos hq,List.lookup_cons,hx] at h
    exact h
   ·rw [if_neg hq,List.lookup_cons,hx] at h
    exact h
def compC (X:Cx) (Nc:List Str) (scope:Scope) (x0:Str) (c0:Addr) (cl:List (Str × Addr)) (C:Addr) (s:Shared) (H:Hp) (fp:List Addr):Cx:=
 { X with N:=Nc,s₀:=s,H₀:=H,env:=compEnvC scope ((x0,c0) :: cl) C X.env,outer:=X.stack,stack:=X.stack,ex:=fp,fn:=fun x=>x == x0,pn:=[],xe:=fun _ _=>False }
structure CompOkC (X:Cx) (scope:Scope) (Nc:List Str) (mp:List (Option Nat)) (x0:Str):Prop where
 kind:scope.kind=.function
 cf:∀ n acc,cellsFrom n scope.names acc=(x0,n) :: acc
 pc:∀ h:Heap,pushCells h scope.names=h.push { cls:=.type "cell",data:=.cell none }
 one:∀ y ∈ scope.names,y.2=.cell->y.1=x0
 nof:scope.names.lookup x0 ≠ some .free
 loc:∀ y ∈ scope.names,y.2=.local->scope.names.lookup y.1=some .local
 fre:∀ y ∈ scope.names,y.2=.free->X.env.kindOf y.1=some .cell\/X.env.kindOf y.1=some .free
 map:MapOk X scope Nc mp
theorem lk_cons {x0 x:Str} {c0 c:Addr} {cl:List (Str × Addr)} (h:((x0,c0) :: cl).lookup x=some c):(x=x0/\c=c0)\/(x ≠ x0/\cl.lookup x=some c):=by
 rw [List.lookup_cons] at h
 by_cases e:x=x0
 ·rw [show (x == x0)=true from beq_iff_eq.mpr e] at h
  exact .inl ⟨e,(Option.some.inj h).symm⟩
 ·rw [show (x == x0)=false from beq_eq_false_iff_ne.mpr e] at h
  exact .inr ⟨e,h⟩
theorem lk_ne {x0 x:Str} {c0:Addr} {cl:List (Str × Addr)} (e:x ≠ x0):((x0,c0) :: cl).lookup x=cl.lookup x:=by
 rw [List.lookup_cons,show (x == x0)=false from beq_eq_false_iff_ne.mpr e]
section
variable {X:Cx} {pins:List (Addr × Obj)} {σ:L2.St} {H:Hp} {s:Shared} {scope:Scope} {Nc:List Str} {mp:List (Option Nat)} {cl:List (Str × Addr)} {C c0:Addr} {x0:Str} {fp:List Addr}
theorem old_cell (I:Inv X pins σ H s) (h1:∀ x c,cl.lookup x=some c->X.env.cells.lookup x=some c) {x:Str} {c:Addr} (e:cl.lookup x=some c):c < s.heap.objs.size:=by
 obtain ⟨v,o,ho,_⟩:=I.cell x c (h1 x c e)
 exact Heap.lt_size ho
theorem compC_ok (I:Inv X pins σ H s) (S:CompOkC X scope Nc mp x0) (h1:∀ x c,cl.lookup x=some c->X.env.cells.lookup x=some c) (h2:∀ y ∈ scope.names,y.2=.free->∃ c,cl.lookup y.1=some c)
  (hC:s.heap.objs.size<=C) (hc0:s.heap.objs.size<=c0) (hf:∀ b ∈ fp,FpOk X pins H b) (ho:∀ b ∈ fp,b < s.heap.objs.size):(compC X Nc scope x0 c0 cl C s H fp).Ok where
 mod:=I.ok.mod
 kind:=S.kind
 glob:=I.ok.glob
 blt:=I.ok.blt
 above:=hC
 inj:=fun x y c e e'=>by
  rcases lk_cons e with ⟨k1,k2⟩ | ⟨n,k⟩ <;> rcases lk_cons e' with ⟨k3,k4⟩ | ⟨n',k'⟩
  ·rw [k1,k3]
  ·exact absurd (old_cell I h1 k') (by rw [k2];exact Nat.not_lt.mpr hc0)
  ·exact absurd (old_cell I h1 k) (by rw [k4];exact Nat.not_lt.mpr hc0)
  ·exact I.ok.inj x y c (h1 x c k) (h1 y c k')
 has:=fun x hx=>by
  by_cases e:x=x0
  ·exact ⟨c0,by rw [e];show ((x0,c0) :: cl).lookup x0=_;rw [List.lookup_cons,show (x0 == x0)=true from beq_self_eq_true _]⟩
  ·have q:=relabel_back2 (env:=X.env) hx
   rcases q with q | q
   ·obtain ⟨c,hc⟩:=h2 (x,.free) (mem_lookup q) rfl
    exact ⟨c,(lk_ne e).trans hc⟩
   ·exact absurd (S.one (x,.cell) (mem_lookup q) rfl) e
 cab:=fun x c hx e=>by
  have e0:x=x0:=beq_iff_eq.mp hx
  rcases lk_cons e with ⟨_,rfl⟩ | ⟨n,_⟩
  ·exact hc0
  ·exact absurd e0 n
 hd:=I.ok.hd
 frames:=I.ok.frames
 stk:=.inl rfl
 exf:=fun b hb=>⟨fun z=>absurd (Nat.lt_of_lt_of_le (ho b hb) hC) (by rw [z];exact Nat.lt_irrefl _),fun x c e=>by
  rcases lk_cons e with ⟨_,rfl⟩ | ⟨_,e⟩
  ·exact fun z=>absurd (Nat.lt_of_lt_of_le (ho b hb) hc0) (by rw [<-z];exact Nat.lt_irrefl _)
  ·exact (hf b hb).2.2.2.2.1 x c (h1 x c e)⟩
 bs:=I.bs
 bsz:=Nat.le_trans I.ok.bsz I.sz
 noex:=fun b o e hb=>by
  rcases (hf b hb).2.2.2.1 with z | z
  ·exact I.ok.noex b o e z
  ·exact absurd (Nat.lt_of_lt_of_le (Heap.lt_size e) (Nat.le_trans I.ok.bsz z)) (Nat.lt_irrefl _)
 exfs:=fun b hb z=>by
  rcases List.mem_cons.mp (I.stkSub b z) with e | e
  ·exact (hf b hb).2.1 e
  ·exact (hf b hb).2.2.1 e
 funs:=I.stack
 frf:=I.stkFree
theorem compC_inv {h':Heap} {tk:Nat} {D:Addr} {oD:Obj} (I:Inv X pins σ H s) (S:CompOkC X scope Nc mp x0) (h1:∀ x c,cl.lookup x=some c->X.env.cells.lookup x=some c) (h2:∀ y ∈ scope.names,y.2=.free->∃ c,cl.lookup y.1=some c)
  (hC:s.heap.objs.size<=C) (hc0:s.heap.objs.size<=c0) (e0:h'.IsCell c0 none) (hf:∀ b ∈ fp,FpOk X pins H b) (ho:∀ b ∈ fp,b < s.heap.objs.size) (kp:∀ b o,s.heap.get? b=some o->h'.get? b=some o) {m:Str->Option Value} (hn:h'.Ns C m)
  (hD:s.heap.objs.size<=D) (hDC:D ≠ C) (eD:h'.get? D=some oD) (dD:∀ v,oD.data ≠ .cell v):Inv (compC X Nc scope x0 c0 cl C s H fp) [(D,oD)] (mapS mp σ) H { s with heap:=h',toks:=tk } where
 ok:=compC_ok I S h1 h2 hC hc0 hf ho
 os:=rfl
 bare:=I.bare
 base:=Un.kept kp
 loc:=by
  refine ⟨m,hn,fun j x v e1 e2 _=>?_⟩
  have hj:(mapS mp σ)[j]?=(mp[j]?).map fun o=>o.bind fun i=>(σ[i]?).bind id:=by unfold mapS;rw [List.getElem?_map]
  rw [hj] at e2
  cases e3:mp[j]? with
  | none=>rw [e3] at e2;cases e2
  | some o=>
   rw [e3] at e2
   cases o with
   | none=>cases e2
   | some i=>
    obtain ⟨k1,k2,k3⟩:=S.map.at e3 e1
    have e4:(σ[i]?).bind id=some v:=Option.some.inj e2
    have e5:σ[i]?=some (some v):=by
     cases q:σ[i]? with
     | none=>rw [q] at e4;cases e4
     | some z=>rw [q] at e4;exact congrArg some e4
    obtain ⟨m0,_,hl⟩:=I.loc
    obtain ⟨u,r,l⟩:=hl i x v k1 e5 (.inr k2)
    refine ⟨u,r,.inr ⟨?_,?_⟩⟩
    ·show (relabel scope X.env).names.lookup x=some .cell\/(relabel scope X.env).names.lookup x=some .free
     have go:∀ {names:List (Str × NameKind)},names.lookup x=some .free →
       ((names.map fun (n,k)=>if (k == NameKind.free && X.env.scope.kind == .function && X.env.kindOf n == some .cell) then (n,NameKind.cell) else (n,k)).lookup x=some .cell ∨
        (names.map fun (n,k)=>if (k == NameKind.free && X.env.scope.kind == .function && X.env.kindOf n == some .cell) then (n,NameKind.cell) else (n,k)).lookup x=some .free):=by
      intro names
      induction names with
      | nil=>intro q;rw [List.lookup_nil] at q;cases q
      | cons y r ih=>
       obtain ⟨n,k⟩:=y
       intro q
       rw [List.lookup_cons] at q
       rw [List.map_cons]
       dsimp only
       cases hx:x == n with
       | true=>
        rw [hx] at q
        cases q
        by_cases hq:(NameKind.free == NameKind.free && X.env.scope.kind == .function && X.env.kindOf n == some .cell)=true
        ·rw [if_pos hq,List.lookup_cons,hx];exact .inl rfl
        ·rw [if_neg hq,List.lookup_cons,hx];exact .inr rfl
       | false=>
        rw [hx] at q
        by_cases hq:(k == NameKind.free && X.env.scope.kind == .function && X.env.kindOf n == some .cell)=true
        ·rw [if_pos hq,List.lookup_cons,hx];exact ih q
        ·rw [if_neg hq,List.lookup_cons,hx];exact ih q
     exact go k3
    ·obtain ⟨c,hc⟩:=h2 (x,.free) (mem_lookup k3) rfl
     have nx:x ≠ x0:=fun z=>S.nof (by rw [<-z];exact k3)
     refine ⟨c,(lk_ne nx).trans hc,?_⟩
     rcases l with ⟨lk,_⟩ | ⟨_,c',hc',oc,hoc,hd⟩
     ·have lk':X.env.scope.names.lookup x=some .local:=lk
      rcases k2 with k2 | k2 <;> (rw [lk'] at k2;cases k2)
     ·rw [h1 x c hc] at hc';cases hc'
      exact ⟨oc,kp _ _ hoc,hd⟩
 cell:=fun x c e=>by
  rcases lk_cons e with ⟨_,rfl⟩ | ⟨_,e⟩
  ·exact ⟨_,e0⟩
  ·obtain ⟨v,o,ho',hd⟩:=I.cell x c (h1 x c e)
   exact ⟨v,o,kp _ _ ho',hd⟩
 free:=I.hok.fresh hC
 freeC:=fun x c e=>by
  rcases lk_cons e with ⟨_,rfl⟩ | ⟨_,e⟩
  ·exact I.hok.fresh hc0
  ·exact I.freeC x c (h1 x c e)
 pin:=fun p hp=>by
  have e:p=(D,oD):=by
   have hp':p ∈ ([]:List (Addr × Obj))++[(D,oD)]:=hp
   simpa using hp'
  subst e
  refine ⟨eD,I.hok.fresh hD,hDC,fun z=>?_,dD⟩
  rcases List.mem_cons.mp (I.stkSub D z) with e | e
  ·exact absurd (Nat.lt_of_lt_of_le I.lt hD) (by rw [e];exact Nat.lt_irrefl _)
  ·exact I.nofs hD e
 hok:=I.hok.kept kp
 len:=by unfold mapS;rw [List.length_map];exact S.map.len
theorem compC_out {σ':L2.St} {H':Hp} {s':Shared} {h':Heap} {D:Addr} {acc:List V} {its:List Value} {n:Nat} (I:Inv X pins σ H s) (hC:s.heap.objs.size<=C) (hD:s.heap.objs.size<=D) (hDC:D ≠ C) (hf:∀ b ∈ fp,FpOk X pins H b)
  (J:Inv (compC X Nc scope x0 c0 cl C s H fp) [(D,{ cls:=.type "list",data:=.seq its.toArray n })] σ' H' s') (hs:Heap.SameBut C s'.heap h') (hv:Vals acc its) (hz:acc.length<=sizeLine) :
  Inv X pins σ (upd H' D (.lst acc)) { s' with heap:=h' }/\H' D=none:=by
 obtain ⟨eD,nD,_,_,_⟩:=J.pin (D,{ cls:=.type "list",data:=.seq its.toArray n }) (List.mem_append_right _ List.mem_cons_self)
 have nD':H' D=none:=nD
 have u:Un (frs X.stack) fp H H' s.heap s'.heap:=J.base
 have neC:∀ b o,s.heap.get? b=some o->b ≠ C:=fun b o e=>Nat.ne_of_lt (Nat.lt_of_lt_of_le (Heap.lt_size e) hC)
 have neD:∀ b o,s.heap.get? b=some o->b ≠ D:=fun b o e=>Nat.ne_of_lt (Nat.lt_of_lt_of_le (Heap.lt_size e) hD)
 refine ⟨?_,nD'⟩
 refine I.call' (ch:=fp) (s':={ s' with heap:=h' }) J.os ⟨fun b o e nb hb hx=>?_,fun b o e nb hb hx=>?_,fun b o e nb hx=>?_,fun b o e hx=>?_,fun b xs e=>?_,fun b o xs e=>?_,fun b ps e=>?_⟩ (fun b o e=>?_) J.bare fun b hb=>⟨(hf b hb).2.2.2.1,(hf b hb).2.1,(hf b hb).2.2.2.2.1,(hf b hb).2.2.2.2.2⟩
 ·exact (hs.2 b (neC b o e)).trans (u.keep b o e nb hb hx)
 ·obtain ⟨sl,q⟩:=u.slot b o e nb hb hx
  exact ⟨sl,(hs.2 b (neC b o e)).trans q⟩
 ·rw [upd_ne (neD b o e)];exact u.free b o e nb hx
 ·obtain ⟨o',q⟩:=u.there b o e hx
  exact ⟨o',(hs.2 b (neC b o e)).trans q⟩
 ·have q:=u.tups b xs e
  rw [upd_ne (ne_of_none q nD')];exact q
 ·have q:=u.frzs b o xs e
  rw [upd_ne (ne_of_none q nD')];exact q
 ·obtain ⟨more,q⟩:=u.tbls b ps e
  exact ⟨more,by rw [upd_ne (ne_of_none q nD')];exact q⟩
 ·have freeC':H' C=none:=J.free
  by_cases hb:b=D
  ·subst hb
   rw [upd_same] at e;cases e
   exact ⟨hz,its,n,hv,(hs.2 _ hDC).trans eD⟩
  ·rw [upd_ne hb] at e
   refine (J.hok b o e).stay (fun c v hc q=>(hs.2 c ?_).trans q) (fun c q=>by rw [upd_ne (ne_of_none q nD')];exact q) fun c xs q=>by rw [upd_ne (ne_of_none q nD')];exact q
   rcases hc with z | z
   ·rw [z];exact ne_of_none e freeC'
   ·exact ne_of_none z freeC'
end
theorem newEnv_one {M:Model} {A:Around} {E:Value->Shared->Prop} {s:Shared} {scope:Scope} {globals:Addr} {cl:List (Str × Addr)} {qual:Str} {x0:Str} {outer:Env} {Q:Env->Shared->Prop} (cf:∀ n acc,cellsFrom n scope.names acc=(x0,n) :: acc) (pc:∀ h:Heap,pushCells h scope.names=h.push { cls:=.type "cell",data:=.cell none })
  (hQ:Q (newEnv scope s.heap.objs.size globals ((x0,s.heap.objs.size+1) :: cl) qual none .none (some outer) builtinsNs) { s with heap:=(s.heap.push { cls:=.type "dict",data:=.dict #[] }).push { cls:=.type "cell",data:=.cell none } }) :
  wpAny M A (newFunctionEnv scope globals cl [] qual none .none (some outer)) Q E s:=by
 simp only [newFunctionEnv,Option.isSome_some,if_true]
 refine wpAny_bind (wpAny_alloc ?_)
 refine wpAny_bind (wpAny_layCells _ (fun name kind cells=>by cases hkc:kind == NameKind.cell <;> simp [hkc]) _ _ _ _ ?_)
 rw [show ({ s with heap:=s.heap.push { cls:=.type "dict",data:=.dict #[] } }:Shared).heap.objs.size=s.heap.objs.size+1 from Heap.size_push ..,cf,pc]
 rw [List.forIn_nil]
 exact wpAny_bind (wpAny_pure (wpAny_pure hQ))
section
variable {X:Cx} {scope:Scope} {Nc:List Str} {mp:List (Option Nat)} {tg iter elt:Expr} {ifs:List Expr} {pos:Pos} {wi:TI} {g:TG} {tt:TT} {te:TE} {x0:Str}
theorem compC_block {pins:List (Addr × Obj)} {σ:L2.St} {H:Hp} {s2:Shared} {it:Addr} {fp:List Addr} {tn:Nat->Heap->Prop} {J:It} {cl:List (Str × Addr)} {RR:Value->Addr->Result->Shared->Prop} {Q:VK}
  (hc:X.calm=true) (S:CompOkC X scope Nc mp x0)
  (hb:∀ c0 cl C s H fp,PG (compC X Nc scope x0 c0 cl C s H fp) tg g/\PTs (compC X Nc scope x0 c0 cl C s H fp) ifs tt/\PE (compC X Nc scope x0 c0 cl C s H fp) elt te)
  (h1:∀ x c,cl.lookup x=some c->X.env.cells.lookup x=some c) (h2:∀ y ∈ scope.names,y.2=.free->∃ c,cl.lookup y.1=some c)
  (I:Inv X pins σ H s2) (T:Turn X.prog X.w X.K tg J fp it tn) (st:tn 0 s2.heap) (hf:∀ b ∈ fp,FpOk X pins H b) (hw:wComp J g tt te Q (mapS mp σ) H)
  (hR:∀ D C s' H',s2.heap.objs.size<=C->s2.heap.objs.size<=D->D ≠ C->(∃ m,s'.heap.Ns C m)->(∀ h',Heap.SameBut C s'.heap h'->Inv X pins σ H' { s' with heap:=h' })->H' C=none->Q (.ref D) H'->RR (.ref D) C (.ok .next) s') :
  wpAny (model X.prog X.w) X.A (newList []) (fun acc s₃=>wpAny (model X.prog X.w) X.A (newFunctionEnv scope X.env.globals cl [] X.env.qual none .none (some X.env)) (fun cenv s₄=>
   codeAny (model X.prog X.w) X.A (.compStart (.ListComp elt [⟨tg,iter,ifs,0⟩] scope pos) 0 (.ref it) acc { cenv with scope:=relabel scope X.env }) (RR acc cenv.locals) s₄) X.xe s₃) X.xe s2:=by
 obtain ⟨W,⟨m0,w0⟩,turn⟩:=hw
 refine wpAny_newObj_type (newEnv_one S.cf S.pc ?_)
 generalize hH2:s2.heap.push { cls:=.type "list",dict:=none,data:=.seq ([]:List Value).toArray }=H2
 have hns₁:((H2.push { cls:=.type "dict",data:=.dict #[] }).push { cls:=.type "cell",data:=.cell none }).Ns H2.objs.size (fun _=>none):=(Heap.Ns.new H2 (.type "dict")).push _
 have hcell₁:((H2.push { cls:=.type "dict",data:=.dict #[] }).push { cls:=.type "cell",data:=.cell none }).IsCell (H2.objs.size+1) none:=⟨_,by rw [show H2.objs.size+1=(H2.push { cls:=.type "dict",data:=.dict #[] }).objs.size from (Heap.size_push ..).symm];exact Heap.get?_push_size _ rfl,rfl⟩
 have hsb₁:∀ b o,H2.get? b=some o->((H2.push { cls:=.type "dict",data:=.dict #[] }).push { cls:=.type "cell",data:=.cell none }).get? b=some o:=fun b o e=>Heap.get?_push_of_some _ (Heap.get?_push_of_some _ e)
 show codeAny _ X.A (.compStart _ 0 (.ref it) (.ref s2.heap.objs.size) (compEnvC scope ((x0,H2.objs.size+1) :: cl) H2.objs.size X.env)) (RR (.ref s2.heap.objs.size) H2.objs.size) { s2 with heap:=(H2.push { cls:=.type "dict",data:=.dict #[] }).push { cls:=.type "cell",data:=.cell none } }
 generalize (H2.push { cls:=.type "dict",data:=.dict #[] }).push { cls:=.type "cell",data:=.cell none }=h₁ at hns₁ hcell₁ hsb₁
 have hC:H2.objs.size=s2.heap.objs.size+1:=by rw [<-hH2,Heap.size_push]
 have hDC:s2.heap.objs.size ≠ H2.objs.size:=by rw [hC];exact Nat.ne_of_lt (Nat.lt_succ_self _)
 have hCle:s2.heap.objs.size<=H2.objs.size:=by rw [hC];exact Nat.le_succ _
 have hcle:s2.heap.objs.size<=H2.objs.size+1:=Nat.le_succ_of_le hCle
 have below:∀ b,b < s2.heap.objs.size->b ≠ H2.objs.size:=fun b hb=>by rw [hC];exact Nat.ne_of_lt (Nat.lt_succ_of_lt hb)
 have old:∀ b o,s2.heap.get? b=some o->h₁.get? b=some o:=fun b o e=>hsb₁ b o (hH2 ▸ Heap.get?_push_of_some _ e)
 have eD:h₁.get? s2.heap.objs.size=some { cls:=.type "list",data:=.seq ([]:List Value).toArray 0 }:=hsb₁ _ _ (hH2 ▸ Heap.get?_push_size _ rfl)
 have ho:∀ b ∈ fp,b < s2.heap.objs.size:=fun b hb=>by
  obtain ⟨o,e,_⟩:=T.obj 0 _ st b hb
  exact Heap.lt_size e
 generalize hYd:compC X Nc scope x0 (H2.objs.size+1) cl H2.objs.size s2 H fp=Y
 have bodies:=hb (H2.objs.size+1) cl H2.objs.size s2 H fp
 rw [hYd] at bodies
 obtain ⟨hg,htt,hte⟩:=bodies
 have I0:∀ tk,Inv Y [(s2.heap.objs.size,{ cls:=.type "list",data:=.seq ([]:List Value).toArray 0 })] (mapS mp σ) H { s2 with heap:=h₁,toks:=tk }:=fun tk=>by
  rw [<-hYd]
  exact compC_inv I S h1 h2 hCle hcle hcell₁ hf ho old hns₁ (Nat.le_refl _) hDC eD fun v z=>by cases z
 have hYp:Y.prog=X.prog:=by rw [<-hYd];rfl
 have hYw:Y.w=X.w:=by rw [<-hYd];rfl
 have hYK:Y.K=X.K:=by rw [<-hYd];rfl
 have hYA:Y.A=X.A:=by rw [<-hYd];rfl
 have hYc:Y.calm=true:=by rw [<-hYd];exact hc
 have hYx:Y.xe=fun _ _=>False:=by rw [<-hYd];rfl
 have hYe:Y.env=compEnvC scope ((x0,H2.objs.size+1) :: cl) H2.objs.size X.env:=by rw [<-hYd];rfl
 have hYs:Y.s₀=s2:=by rw [<-hYd];rfl
 have hYex:Y.ex=fp:=by rw [<-hYd];rfl
 have hYpn:Y.pn=[]:=by rw [<-hYd];rfl
 have hYfs:Y.fs=frs X.stack:=by rw [<-hYd];rfl
 -- the iterator's objects,in the block
 have fpY:∀ {o:Obj} {H':Hp},(∀ b ∈ fp,H' b=none)->∀ b ∈ fp,FpOk Y [(s2.heap.objs.size,o)] H' b:=fun {o H'} hn b hb=>by
  refine ⟨hn b hb,?_,?_,.inl (by rw [hYex];exact hb),fun x c e=>?_,fun p hp=>?_⟩
  ·rw [hYe];exact below b (ho b hb)
  ·rw [hYfs]
   intro z
   rcases List.mem_cons.mp (I.stkSub b z) with e | e
   ·exact (hf b hb).2.1 e
   ·exact (hf b hb).2.2.1 e
  ·rw [hYe] at e
   rcases lk_cons e with ⟨_,rfl⟩ | ⟨_,e⟩
   ·exact fun z=>absurd (Nat.lt_of_lt_of_le (ho b hb) hcle) (by rw [<-z];exact Nat.lt_irrefl _)
   ·exact (hf b hb).2.2.2.2.1 x c (h1 x c e)
  ·rw [hYpn] at hp
   have e:p=(s2.heap.objs.size,o):=by simpa using hp
   subst e
   exact Nat.ne_of_gt (ho b hb)
 have loop:∀ s₃:Shared,s₃={ s2 with heap:=h₁ } →
   codeAny (model X.prog X.w) X.A (.compLoop (.ListComp elt [⟨tg,iter,ifs,0⟩] scope pos) 0 (.ref it) (.ref s2.heap.objs.size) (compEnvC scope ((x0,H2.objs.size+1) :: cl) H2.objs.size X.env))
    (RR (.ref s2.heap.objs.size) H2.objs.size) s₃:=by
  rintro s₃ rfl
  refine compLoop_any (fun n s'=>∃ i σ' H' acc its k,Inv Y [(s2.heap.objs.size,{ cls:=.type "list",data:=.seq its.toArray k })] σ' H' s'/\tn i s'.heap/\(∀ b ∈ fp,H' b=none)/\Vals acc its/\acc.length<=sizeLine/\W i n σ' acc H') ?_ m0
   ⟨0,mapS mp σ,H,[],[],0,I0 _,T.keep 0 _ _ st fun b _ o e=>old b o e,fun b hb=>(hf b hb).1,.nil,Nat.zero_le _,w0⟩
  rintro n s3 ⟨i,σ3,H3,acc,its,k,I3,st3,fr3,hv,hz,w3⟩
  rcases turn i n σ3 acc H3 w3 with ⟨stop,hzz,qn⟩ | ⟨go,step⟩
  ·have hd:=T.done Y hYp hYw hYK hYc i _ s3 σ3 H3 NE I3 (fpY fr3) st3 stop
   rw [hYA] at hd
   refine thn hd fun r s4 ⟨hr,I4⟩=>?_
   subst hr
   have I4':=I4
   rw [<-hYd] at I4'
   have nC:H3 H2.objs.size=none:=by
    have z:=I4.free
    rw [hYe] at z
    exact z
   obtain ⟨_,nD⟩:=compC_out I hCle (Nat.le_refl _) hDC hf I4' (Heap.SameBut.refl _ s4.heap) hv hzz
   refine hR _ _ s4 _ hCle (Nat.le_refl _) hDC ?_ (fun h' hs'=>(compC_out I hCle (Nat.le_refl _) hDC hf I4' hs' hv hzz).1) ?_ (qn _ nD)
   ·obtain ⟨m',hn',_⟩:=I4.loc
    rw [hYe] at hn'
    exact ⟨m',hn'⟩
   ·rw [upd_ne (Ne.symm hDC)];exact nC
  ·have hi:=T.item Y hYp hYw hYK hYc i _ s3 σ3 H3 NE I3 (fpY fr3) st3 go
   rw [hYA] at hi
   refine thn hi fun r s4 ⟨u,hr,h4⟩=>?_
   subst hr
   refine thn h4 fun _ s5 ⟨x,H5,I5,r5,y5,st5,fr5⟩=>?_
   have I5':=I5.pinned (fpY fr5) (T.obj _ _ st5)
   have ha:=hg _ s5 σ3 H5 x u _ I5' r5 (step x H5 y5)
   rw [hYp,hYw,hYA,hYe,hYx] at ha
   refine thn ha fun _ s6 ⟨σ6,H6,I6,q6⟩=>?_
   have ht:=htt _ s6 σ6 H6 _ I6 q6
   rw [hYp,hYw,hYA,hYe,hYx] at ht
   refine thn ht fun ok s7 ⟨H7,I7,q7⟩=>?_
   cases ok with
   | false=>
    have q7':∃ m',m' < n/\W (i+1) m' σ6 acc H7:=q7
    obtain ⟨m',hm,w7⟩:=q7'
    rw [if_neg Bool.false_ne_true]
    refine ⟨m',hm,i+1,σ6,H7,acc,its,k,I7.unpinned,T.keep _ _ _ st5 fun b hb o e=>(I7.pin (b,o) (List.mem_append_right _ (List.mem_append_right _ (mem_pinsAt hb e)))).1,fun b hb=>?_,hv,hz,w7⟩
    obtain ⟨o,e,d⟩:=T.obj _ _ st5 b hb
    exact (I7.pin (b,o) (List.mem_append_right _ (List.mem_append_right _ (mem_pinsAt hb e)))).2.1
   | true=>
    rw [if_pos rfl]
    have he:=hte _ s7 σ6 H7 _ I7 q7
    rw [hYp,hYw,hYA,hYe,hYx] at he
    refine thn he fun x4 s8 ⟨v,H8,I8,r8,hlt,m',hm,w8⟩=>?_
    have st8:tn (i+1) s8.heap:=T.keep _ _ _ st5 fun b hb o e=>(I8.pin (b,o) (List.mem_append_right _ (List.mem_append_right _ (mem_pinsAt hb e)))).1
    have fr8:∀ b ∈ fp,H8 b=none:=fun b hb=>by
     obtain ⟨o,e,d⟩:=T.obj _ _ st5 b hb
     exact (I8.pin (b,o) (List.mem_append_right _ (List.mem_append_right _ (mem_pinsAt hb e)))).2.1
    have I8':=I8.unpinned
    obtain ⟨e8,n8,ne8,nf8,_⟩:=I8'.pin (s2.heap.objs.size,{ cls:=.type "list",data:=.seq its.toArray k }) (List.mem_append_right _ List.mem_cons_self)
    refine wpAny_list_append_plain (items:=its.toArray) ⟨k,e8⟩ (fun h9 hl9 hs9=>?_) (by rw [List.size_toArray,<-hv.length];exact hz)
    obtain ⟨k9,e9⟩:=hl9
    have ep:its.toArray.push x4=(its++[x4]).toArray:=by simp
    rw [ep] at e9
    -- the list has turned
    have I9:Inv Y [] σ6 H8 { s8 with heap:=h9 }:=by
     refine (I8'.pins_of (pins':=[]) fun p hp=>nomatch hp).turned (t':=s8.toks) (it:=s2.heap.objs.size) (fun b o hb e=>(hs9.2 b hb).trans e) n8 ne8 (.inr (by rw [hYs];exact Nat.le_refl _)) (fun x c e z=>?_) fun p hp=>?_
     ·rw [hYe] at e
      rcases lk_cons e with ⟨_,rfl⟩ | ⟨_,e⟩
      ·exact absurd z (Nat.ne_of_gt (Nat.lt_succ_of_le hCle))
      ·obtain ⟨v',o',ho',_⟩:=I.cell x c (h1 x c e)
       exact absurd (Heap.lt_size ho') (by rw [z];exact Nat.lt_irrefl _)
     ·rw [hYpn] at hp
      exact absurd hp (by simp)
    refine ⟨m',hm,i+1,σ6,H8,acc++[v],its++[x4],k9,I9.pins_of fun p hp=>?_,?_,fr8,hv.append (.cons r8 .nil),?_,w8⟩
    ·have e:p=(s2.heap.objs.size,{ cls:=.type "list",data:=.seq (its++[x4]).toArray k9 }):=by simpa using hp
     subst e
     exact ⟨e9,n8,ne8,nf8,fun v z=>by cases z⟩
    ·exact T.keep _ _ _ st8 fun b hb o e=>(hs9.2 b (Nat.ne_of_lt (ho b hb))).trans e
    ·rw [List.length_append,List.length_singleton];omega
 have hself:=T.self X.A 0 { s2 with heap:=h₁ } (fun it' s'=>codeAny (model X.prog X.w) X.A (.compLoop (.ListComp elt [⟨tg,iter,ifs,0⟩] scope pos) 0 it' (.ref s2.heap.objs.size) (compEnvC scope ((x0,H2.objs.size+1) :: cl) H2.objs.size X.env))
    (RR (.ref s2.heap.objs.size) H2.objs.size) s') (notedBy (model X.prog X.w) X.A (compEnvC scope ((x0,H2.objs.size+1) :: cl) H2.objs.size X.env) fun x s'=>RR (.ref s2.heap.objs.size) H2.objs.size (.error x) s') (T.keep 0 _ _ st fun b _ o e=>old b o e) (loop _ rfl)
 exact codeAny_compStart_list (loop _ rfl) hself
theorem closC_of (S:CompOkC X scope Nc mp x0) {pins:List (Addr × Obj)} {σ:L2.St} {H:Hp} {s:Shared} (I:Inv X pins σ H s):∃ cl,closureFor scope X.env=pure cl/\(∀ x c,cl.lookup x=some c->X.env.cells.lookup x=some c)/\(∀ y ∈ scope.names,y.2=.free->∃ c,cl.lookup y.1=some c):=
 closure_ok fun y hy hf=>I.ok.has y.1 (S.fre y hy hf)
theorem pe_compC (hc:X.calm=true) (S:CompOkC X scope Nc mp x0) (hi:PI X tg iter wi)
  (hb:∀ c0 cl C s H fp,PG (compC X Nc scope x0 c0 cl C s H fp) tg g/\PTs (compC X Nc scope x0 c0 cl C s H fp) ifs tt/\PE (compC X Nc scope x0 c0 cl C s H fp) elt te)
  (hs:∀ x,foldedSetIterable iter X.env x=pure x:=by intro _;rfl):PE X (.ListComp elt [⟨tg,iter,ifs,0⟩] scope pos) (tComp mp wi g tt te):=by
 intro pins s σ H Q I h
 obtain ⟨cl,hcl,h1,h2⟩:=closC_of S I
 rw [eval_ListComp]
 refine wpAny_comprehension_free (use:=none) rfl hs hcl S.kind S.loc (thn (hi pins s σ H _ I h) fun v s1 hv=>thn hv fun itv s2 hq=>?_)
 obtain ⟨it,fp,tn,J,H2,e,I2,T,st2,f2,hw⟩:=hq
 subst e
 refine compC_block (RR:=fun acc C=>compPost (model X.prog X.w) X.A X.xe none (EP X pins σ Q) acc C) (Q:=Q) hc S hb h1 h2 I2 T st2 f2 hw fun D C s' H' hC hD hDC hm hI hn hq=>?_
 obtain ⟨m,hm⟩:=hm
 exact ⟨m,hm,fun h' hs'=>⟨.ref D,H',hI h' hs',rfl,hq⟩⟩
end
def compChkC (sc:Scope) (N:List Str) (own:Scope) (Nc:List Str) (mp:List (Option Nat)) (x0:Str):Bool:=
 (own.kind == .function) && (own.names.all fun y=>y.2 != .cell || y.1 == x0) && (own.names.lookup x0 != some .free) && (own.names.all fun y=>y.2 != .local || own.names.lookup y.1 == some .local) &&
 (own.names.all fun y=>y.2 != .free || (sc.names.lookup y.1 == some .cell || sc.names.lookup y.1 == some .free)) && mapChk sc N own Nc mp
theorem CompOkC.of {X:Cx} {own:Scope} {Nc:List Str} {mp:List (Option Nat)} {x0:Str} (cf:∀ n acc,cellsFrom n own.names acc=(x0,n) :: acc) (pc:∀ h:Heap,pushCells h own.names=h.push { cls:=.type "cell",data:=.cell none }) (h:compChkC X.env.scope X.N own Nc mp x0=true):CompOkC X own Nc mp x0:=by
 unfold compChkC at h
 simp only [Bool.and_eq_true,List.all_eq_true,Bool.or_eq_true,beq_iff_eq,bne_iff_ne] at h
 obtain ⟨⟨⟨⟨⟨h1,h2⟩,h0⟩,h3⟩,h4⟩,h5⟩:=h
 refine ⟨h1,cf,pc,fun y hy e=>?_,h0,fun y hy e=>?_,fun y hy e=>?_,mapChk_ok h5⟩
 ·rcases h2 y hy with z | z
  ·exact absurd e z
  ·exact z
 ·rcases h3 y hy with z | z
  ·exact absurd e z
  ·exact z
 ·rcases h4 y hy with z | z
  ·exact absurd e z
  ·exact z
end L3
namespace L3
open PySem PySem.Spec PyProof.Rows L2
theorem pi_listK {X:Cx} {K:PySem.W.Frag} {tg l:Expr} {tl:TE} (hK:X.K=K) (hl:PE X l tl):PI X tg l (iList K tl):=by subst hK;exact pi_list hl
end L3
namespace Vm
open PySem PySem.Spec PyProof.Rows L2 L3
def wide (ws:List (List Str)):Nat:=ws.foldr (fun z m=>max z.length m) 0
theorem wide_ge {ws:List (List Str)} {z:List Str} (h:z ∈ ws):z.length<=wide ws:=by
 induction ws with
 | nil=>cases h
 | cons y r ih=>
  show _<=max y.length (wide r)
  rcases List.mem_cons.mp h with rfl | h
  ·omega
  ·have:=ih h
   omega
theorem wide_le {ws:List (List Str)} {n:Nat} (h:∀ z ∈ ws,z.length<=n):wide ws<=n:=by
 induction ws with
 | nil=>exact Nat.zero_le _
 | cons y r ih=>
  show max y.length (wide r)<=n
  have h1:=h y List.mem_cons_self
  have h2:=ih fun z hz=>h z (List.mem_cons_of_mem _ hz)
  omega
theorem wide_eq {ws:List (List Str)} {m:Int} (h:m ∈ ws.map fun z=>((z.length:Nat):Int)) (hm:∀ n ∈ ws.map fun z=>((z.length:Nat):Int),n<=m):m=((wide ws:Nat):Int):=by
 obtain ⟨z,hz,rfl⟩:=List.mem_map.mp h
 have h1:=wide_ge hz
 have h2:=wide_le (ws:=ws) (n:=z.length) fun y hy=>by
  have:=hm _ (List.mem_map.mpr ⟨y,hy,rfl⟩)
  omega
 omega
abbrev LPG:=List (Option Str) × List (List Str)
def gapCol (ws:List (List Str)) (k:Nat):List (Option Str):=none :: ws.map fun z=>z[k]?
def gapCols (ws:List (List Str)):List (List (Option Str)):=(List.range (wide ws)).map (gapCol ws)
def gapsIn (Ls:List LPG) (i:Nat):List (List Str):=Ls.map fun x=>gAt x.2 i
def wordCol (es:List Str) (Ls:List LPG) (i:Nat):List (Option Str):=some (gt es i) :: Ls.map fun x=>(x.1[i]?).join
def wordCols (es:List Str) (Ls:List LPG) (i:Nat):List (List (Option Str)):=if i < es.length then [wordCol es Ls i] else []
def colsTo (es:List Str) (Ls:List LPG):Nat->List (List (Option Str))
 | 0=>[]
 | i+1=>colsTo es Ls i++gapCols (gapsIn Ls i)++wordCols es Ls i
def colsOf (es:List Str) (Ls:List LPG):List (List (Option Str)):=colsTo es Ls (es.length+1)
theorem gapCols_len (ws:List (List Str)):(gapCols ws).length=wide ws:=by unfold gapCols;rw [List.length_map,List.length_range]
theorem colsTo_len {es:List Str} {Ls:List LPG} {m:Nat} (h:∀ i,wide (gapsIn Ls i)<=m):∀ i:Nat,(colsTo es Ls i).length<=i * (m+1)
 | 0=>Nat.zero_le _
 | i+1=>by
  show (colsTo es Ls i++gapCols (gapsIn Ls i)++wordCols es Ls i).length<=_
  rw [List.length_append,List.length_append,gapCols_len]
  have h1:=colsTo_len (es:=es) h i
  have h2:=h i
  have h3:(wordCols es Ls i).length<=1:=by
   unfold wordCols
   split
   ·exact Nat.le_refl _
   ·exact Nat.zero_le _
  rw [Nat.succ_mul]
  omega
structure ColumnsAt (H:Hp) (as:List Addr) (cols:List (List (Option Str))):Prop where
 len:as.length=cols.length
 item:∀ (i:Nat) (a:Addr) (c:List (Option Str)),as[i]?=some a->cols[i]?=some c->H a=some (.tup (c.map optS))
theorem ColumnsAt.mono {H H':Hp} {as:List Addr} {cols:List (List (Option Str))} (S:Same H H') (h:ColumnsAt H as cols):ColumnsAt H' as cols:=⟨h.len,fun i a c e1 e2=>S _ _ (h.item i a c e1 e2)⟩
theorem ColumnsAt.nil {H:Hp}:ColumnsAt H [] []:=⟨rfl,fun i a c e _=>by simp at e⟩
theorem ColumnsAt.over {H:Hp} {as:List Addr} {cols:List (List (Option Str))} {l:Addr} {xs:List V} {o:HO} (h:ColumnsAt H as cols) (hl:H l=some (.lst xs)):ColumnsAt (upd H l o) as cols:=
 ⟨h.len,fun i a c e1 e2=>by
  have:=h.item i a c e1 e2
  rw [upd_ne (fun e=>by rw [e,hl] at this;cases this)]
  exact this⟩
theorem ColumnsAt.app {H:Hp} {as bs:List Addr} {cols dols:List (List (Option Str))} (h:ColumnsAt H as cols) (h2:ColumnsAt H bs dols):ColumnsAt H (as++bs) (cols++dols):=by
 refine ⟨by rw [List.length_append,List.length_append,h.len,h2.len],fun i a c e1 e2=>?_⟩
 by_cases hi:i < as.length
 ·rw [List.getElem?_append_left hi] at e1
  rw [List.getElem?_append_left (by rw [<-h.len];exact hi)] at e2
  exact h.item i a c e1 e2
 ·rw [List.getElem?_append_right (by omega)] at e1
  rw [List.getElem?_append_right (by rw [<-h.len];omega),<-h.len] at e2
  exact h2.item _ a c e1 e2
theorem ColumnsAt.one {H:Hp} {a:Addr} {c:List (Option Str)} (h:H a=some (.tup (c.map optS))):ColumnsAt H [a] [c]:=
 ⟨rfl,fun i b d e1 e2=>by
  match i,e1,e2 with
  | 0,e1,e2=>cases e1;cases e2;exact h
  | n+1,e1,e2=>simp at e1⟩
structure LaidAt (H:Hp) (x a b:Addr) (gs:List Addr) (P:List (Option Str)) (G:List (List Str)) (n:Nat):Prop where
 hx:H x=some (.tup [.ref a,.ref b])
 ha:H a=some (.tup (P.map optS))
 hb:H b=some (.tup (gs.map V.ref))
 hG:GapsAt H gs G
 pl:P.length=n
 gl:G.length=n+1
 small:∀ z ∈ G,z.length<=1000
theorem LaidAt.mono {H H':Hp} {x a b:Addr} {gs:List Addr} {P:List (Option Str)} {G:List (List Str)} {n:Nat} (S:Same H H') (h:LaidAt H x a b gs P G n):LaidAt H' x a b gs P G n:=
 ⟨S _ _ h.hx,S _ _ h.ha,S _ _ h.hb,h.hG.mono S,h.pl,h.gl,h.small⟩
structure LRec where
 x:Addr
 a:Addr
 b:Addr
 gs:List Addr
 L:LPG
def LRecAt (H:Hp) (n:Nat) (r:LRec):Prop:=LaidAt H r.x r.a r.b r.gs r.L.1 r.L.2 n
def gAddr (r:LRec) (i:Nat):Addr:=(r.gs[i]?).getD 0
theorem LRecAt.gap {H:Hp} {n i:Nat} {r:LRec} (h:LRecAt H n r) (hi:i < n+1):atI (r.gs.map V.ref) ((i:Nat):Int)=some (.ref (gAddr r i))/\H (gAddr r i)=some (.tup ((gAt r.L.2 i).map V.str)):=by
 obtain ⟨g,e,a,hg⟩:=h.hG.at (i:=i) (by rw [h.gl];exact hi)
 have:gAddr r i=g:=by unfold gAddr;rw [e];rfl
 rw [this]
 exact ⟨a,hg⟩
theorem LRecAt.place {H:Hp} {n i:Nat} {r:LRec} (h:LRecAt H n r) (hi:i < n):atI (r.L.1.map optS) ((i:Nat):Int)=some (optS (r.L.1[i]?).join):=by
 have hl:i < r.L.1.length:=by rw [h.pl];exact hi
 refine atI_nat ?_
 rw [List.getElem?_map,List.getElem?_eq_getElem hl]
 rfl
end Vm
namespace L3
open PySem PySem.Spec PyProof.Rows L2
open AutoSeq1 (wpAny_loadPart')
theorem noFill_tuple_mul:fillsNumberSlot (.type "tuple") "mul" = pure false:=
 PySem.fillsNumberSlot_seq (id := "tuple.__mul__") (r:=some (.builtin "tuple.__rmul__")) F.slot_tuple_mul.lookup (by decide +kernel) F.slot_tuple_rmul.lookup (by decide +kernel)
theorem repeat_tuple:seqRepeat? (.type "tuple")=pure (some (.builtin "tuple.__mul__")):=by
 unfold seqRepeat?
 rw [PySem.seqSlot_of (T := "tuple") (name := "__mul__") (id := "tuple.__mul__") F.slot_tuple_mul.lookup (by decide +kernel),PySem.seqSlot_of (T := "tuple") (name := "__rmul__") (id := "tuple.__rmul__") F.slot_tuple_rmul.lookup (by decide +kernel)]
 rfl
theorem rmul_int_tuple (a:Int) (t:Tok) (l:Addr) (o:Obj) (its:Array Value) (k:Nat) (hc:o.cls=.type "tuple") (hd:o.data=.seq its k) :
  Meets (Builtin.«int.__rmul__» ⟨[.int a t,.ref l],[]⟩) (fun _ R s=>s.heap.get? l=some o/\R (.ok (.ret Value.notImplemented)) s):=
 .of_wp fun prog w A R s h=>by
  obtain ⟨hp,g,d,tk,os⟩:=s
  obtain ⟨hl,h⟩:=h
  obtain ⟨oc,od,oda,osl⟩:=o
  cases hc
  cases hd
  have hT:Shared.TypeIs ⟨hp,g,d,tk,os⟩ (.ref l) "tuple" := ⟨_,hl,rfl⟩
  wp_walk using wpAny_loadPart' hl,wpAny_typeOf hT
  exact ⟨_,rfl,h⟩
theorem tuple_mul_new (l:Addr) (o:Obj) (u:Value) (k n:Nat) (t:Tok) (hc:o.cls=.type "tuple") (hd:o.data=.seq #[u] k) (hn:n<=100000) (h1:n ≠ 1) :
  Meets (Builtin.«tuple.__mul__» ⟨[.ref l,.int (n:Int) t],[]⟩) (fun _ R s=>s.heap.get? l=some o/\R (.ok (.ret (.ref s.heap.objs.size))) { s with heap:=s.heap.push { cls:=.type "tuple",data:=.seq (List.replicate n u).toArray } }):=
 .of_wp fun prog w A R s h=>by
  obtain ⟨hp,g,d,tk,os⟩:=s
  obtain ⟨hl,h⟩:=h
  have hT:Shared.TypeIs ⟨hp,g,d,tk,os⟩ (.ref l) "tuple" := ⟨o,hl,hc⟩
  have e1:(decide ((n:Int) < -(2 ^ 63)) || decide ((n:Int) ≥ 2 ^ 63))=false:=by
   rw [decide_eq_false (by omega),decide_eq_false (by omega)];rfl
  wp_walk using wpAny_loadPart' hl,wpAny_typeOf hT
  rw [if_neg (by rw [e1];exact Bool.false_ne_true)]
  obtain ⟨oc,od,oda,osl⟩:=o
  cases hc
  cases hd
  wp_walk using wpAny_loadPart' hl,wpAny_typeOf hT
  have e2:(#[u].isEmpty || ((n:Int) == 1))=false:=by
   have:((n:Int) == 1)=false:=beq_eq_false_iff_ne.mpr (by omega)
   rw [this]
   rfl
  rw [if_neg (by rw [e2];exact Bool.false_ne_true)]
  show wpAny _ _ (if (decide ((n:Int)<=0) || #[u].isEmpty)=true then _ else _) _ _ _
  by_cases h0:n=0
  ·subst h0
   rw [if_pos (by rfl)]
   unfold Builtin.Tuple.tupleExact
   refine wpAny_bind (wpAny_newObj_type ?_ (by show 0<=sizeLine;exact Nat.zero_le _))
   exact wpAny_pure ⟨_,rfl,h⟩
  ·have e3:(decide ((n:Int)<=0) || #[u].isEmpty)=false:=by rw [decide_eq_false (by omega)];rfl
   rw [if_neg (by rw [e3];exact Bool.false_ne_true)]
   show wpAny _ _ (if ((#[u].size:Nat):Int) * (n:Int) > (2 ^ 63 - 1) / 8 then _ else _) _ _ _
   have e4:((#[u].size:Nat):Int) * (n:Int)=(n:Int):=by show (1:Int) * _=_;omega
   rw [if_neg (by rw [e4];omega)]
   show wpAny _ _ (if Builtin.Tuple.tupleTooMany (((#[u].size:Nat):Int) * (n:Int))=true then _ else _) _ _ _
   have e5:Builtin.Tuple.tupleTooMany (((#[u].size:Nat):Int) * (n:Int))=false:=by
    rw [e4]
    unfold Builtin.Tuple.tupleTooMany
    exact decide_eq_false (by unfold sizeLine;omega)
   rw [if_neg (by rw [e5];exact Bool.false_ne_true)]
   show wpAny _ _ (Builtin.Tuple.tupleExact (List.foldl (fun x1 x2=>x1++x2) #[] (List.replicate ((n:Int)).toNat #[u])) >>= fun v=>ret v) _ _ _
   rw [Int.toNat_natCast,rep_fold]
   have e6:(#[]++(List.replicate n u).toArray:Array Value)=(List.replicate n u).toArray:=by simp
   rw [e6]
   unfold Builtin.Tuple.tupleExact
   refine wpAny_bind (wpAny_newObj_type ?_ (by show (List.replicate n u).toArray.size<=sizeLine;rw [List.size_toArray,List.length_replicate];unfold sizeLine;omega))
   exact wpAny_pure ⟨_,rfl,h⟩
theorem tuple_mul_one (l:Addr) (o:Obj) (u:Value) (k:Nat) (t:Tok) (hc:o.cls=.type "tuple") (hd:o.data=.seq #[u] k) :
  Meets (Builtin.«tuple.__mul__» ⟨[.ref l,.int 1 t],[]⟩) (fun _ R s=>s.heap.get? l=some o/\R (.ok (.ret (.ref l))) s):=
 .of_wp fun prog w A R s h=>by
  obtain ⟨hp,g,d,tk,os⟩:=s
  obtain ⟨hl,h⟩:=h
  obtain ⟨oc,od,oda,osl⟩:=o
  cases hc
  cases hd
  have hT:Shared.TypeIs ⟨hp,g,d,tk,os⟩ (.ref l) "tuple" := ⟨_,hl,rfl⟩
  wp_walk using wpAny_loadPart' hl,wpAny_typeOf hT
  exact ⟨_,rfl,h⟩
section
variable {X:Cx}
theorem op_mulT:OpR X (binaryOp .Mult) (fun x y H Q=>∃ (a:Addr) (v:V) (n:Nat),x=.ref a/\y=.int ((n:Nat):Int)/\H a=some (.tup [v])/\n<=100000/\∀ (r:Addr) (H2:Hp),Same H H2->H2 r=some (.tup (List.replicate n v))->Q (.ref r) H2):=by
 intro pins s σ H x y w u Q I rx ry h
 obtain ⟨a,v,n,rfl,rfl,hH,hn,q⟩:=h
 obtain rfl:w=Value.ref a:=rx
 obtain ⟨t,rfl⟩:=ry
 obtain ⟨hz,its,r,o,ho,hc,k,hd⟩:=I.hok a _ hH
 obtain ⟨u,rfl,ru⟩:=vals1 r
 have isT:s.TypeIs (.ref a) "tuple" := ⟨o,ho,hc⟩
 refine wpAny_binaryOp_repeat_ref (by decide:(Value.type "tuple" == Value.type "int")=false) isT (fun s'=>typeIs_int s' _ t) noFill_tuple_mul F.fills_int_mul F.slot_int_rmul repeat_tuple F.slot_int_index.lookup ?_
 refine call_meets F.slot_int_rmul (typeIs_int s _ t) F.entry_int_rmul (F.args_int_rmul_2 _ _) (rmul_int_tuple _ t a o _ k hc hd) ?_
 refine ⟨ho,rfl,isT,?_⟩
 by_cases h1:n=1
 ·subst h1
  exact call_meets F.slot_tuple_mul isT F.entry_tuple_mul (F.args_tuple_mul_2 _ _) (tuple_mul_one a o u k t hc hd) ⟨ho,.ref a,H,I,rfl,q a H (fun _ _ e=>e) hH⟩
 ·refine call_meets F.slot_tuple_mul isT F.entry_tuple_mul (F.args_tuple_mul_2 _ _) (tuple_mul_new a o u k n t hc hd hn h1) ⟨ho,.ref s.heap.objs.size,upd H s.heap.objs.size (.tup (List.replicate n v)),?_,rfl,?_⟩
  ·refine I.laid (t':=s.toks) (fun b u e=>Heap.get?_push_of_some _ e) (Nat.le_refl _) ?_
   exact ⟨by rw [List.length_replicate];show n<=sizeLine;unfold sizeLine;omega,List.replicate n u,vals_rep ru n,IsTup.new _ _⟩
  ·exact q _ _ (same_upd (I.hok.fresh (Nat.le_refl _))) upd_same
end
end L3
namespace L2
open PySem PySem.Spec PyProof.Rows
def optIs:Option Str->Value->Bool
 | none,.none=>true
 | none,_=>false
 | some x,v=>keyIs (.inr x) v
theorem optIs_shape {k:Option Str} {v:Value} (h:optIs k v=true):(k=none/\v=.none)\/∃ x t,k=some x/\v=.str x t:=by
 cases k with
 | none=>cases v <;> first | exact .inl ⟨rfl,rfl⟩ | cases h
 | some x=>
  rcases keyIs_shape (show keyIs (.inr x) v=true from h) with ⟨i,t,e,_⟩ | ⟨y,t,e,rfl⟩
  ·cases e
  ·cases e;exact .inr ⟨x,t,rfl,rfl⟩
theorem eqBool_nones {prog:Program} {w:World} {A:Around} {E:Value->Shared->Prop} {s:Shared} {Q:Bool->Shared->Prop} (h:Q true s):wpAny (model prog w) A (PySem.eqBool .none .none) Q E s:=by
 unfold PySem.eqBool
 refine wpAny_holding ?_
 rw [if_pos (by rfl)]
 exact wpAny_bind (wpAny_rule (wpAny_pure h))
def optH (w:World):Option Str->Int
 | none=>PySem.W.hashW w.params .none
 | some x=>keyH w (.inr x)
def optKind (prog:Program) (w:World):PySem.KeyKind prog w (Option Str) where
 is:=optIs
 hash:=optH w
 inj:=fun v a b ha hb=>by
  rcases optIs_shape ha with ⟨rfl,rfl⟩ | ⟨x,t,rfl,rfl⟩
  ·rcases optIs_shape hb with ⟨rfl,e⟩ | ⟨y,u,rfl,e⟩
   ·rfl
   ·exact nomatch e
  ·rcases optIs_shape hb with ⟨rfl,e⟩ | ⟨y,u,rfl,e⟩
   ·exact nomatch e
   ·injection e with e1 _;rw [e1]
 byValue:=fun k v h=>by
  rcases optIs_shape h with ⟨rfl,rfl⟩ | ⟨x,t,rfl,rfl⟩ <;> rfl
 pyHash:=fun hv h=>by
  rcases optIs_shape hv with ⟨rfl,rfl⟩ | ⟨x,t,rfl,rfl⟩
  ·exact PySem.W.pyHash_slot (T := "NoneType") rfl F.slot_NoneType_hash F.entry_NoneType_hash (F.args_NoneType_hash_1 _) (beq_builtin_none _) (.inl rfl) (wpAny_bind (wpAny_pure (wpAny_bind (wpAny_mkInt (wpAny_pure ⟨_,_,rfl,h⟩)))))
  ·exact wpAny_pyHash_str h
 eqBool:=fun hu hv h=>by
  rcases optIs_shape hu with ⟨rfl,rfl⟩ | ⟨x,t,rfl,rfl⟩
  ·rcases optIs_shape hv with ⟨rfl,rfl⟩ | ⟨y,u,rfl,rfl⟩
   ·rw [decide_eq_true rfl] at h
    exact eqBool_nones h
   ·rw [decide_eq_false (fun q=>nomatch q)] at h;exact SeqAt.EqAt.none_str y u _ _ _ _ h
  ·rcases optIs_shape hv with ⟨rfl,rfl⟩ | ⟨y,u,rfl,rfl⟩
   ·rw [decide_eq_false (fun q=>nomatch q)] at h;exact SeqAt.EqAt.str_none x t _ _ _ _ h
   ·rw [show decide ((some x:Option Str)=some y)=decide (x=y) by
     by_cases e:x=y
     ·subst e;simp
     ·rw [decide_eq_false e,decide_eq_false (fun q=>e (Option.some.inj q))]] at h
    exact wpAny_eqBool_str h
 «strs»:=fun k x t v h=>by
  rcases optIs_shape h with ⟨rfl,e⟩ | ⟨y,u,rfl,e⟩
  ·exact nomatch e
  ·injection e with e1 _
   subst e1
   cases v <;> rfl
def optV:Option Str->V
 | none=>.non
 | some x=>.str x
theorem optV_is {P:Program} {w:World} {k:Option Str} {u:Value} (r:RelV (optV k) u):(optKind P w).is k u=true:=by
 cases k with
 | none=>cases (show u=Value.none from r);rfl
 | some x=>
  obtain ⟨t,rfl⟩:=(show ∃ t,u=Value.str x t from r)
  exact keyIs_str x t
def DN (P:Program) (w:World) (a:Addr) (kvs:List (Option Str × V)):HO:=.ext fun h=>kvs.length<=sizeLine/\(a == sysModules)=false/\∃ vs,KV kvs vs/\h.DictOf (optKind P w) a vs
def ViewO (v d:Addr):HO:=.ext fun h=>h.get? v=some { cls:=.type "dict_items",data:=.fields #[.ref d] }
section
variable {X:Cx} {pins:List (Addr × Obj)} {σ:St} {H:Hp} {s:Shared} {a:Addr} {kvs:List (Option Str × V)}
theorem dn_ok {P:Program} {w:World} {h:Heap} {vs:List (Option Str × Value)} (hl:kvs.length<=sizeLine) (hd:(a == sysModules)=false) (rel:KV kvs vs) (dd:h.DictOf (optKind P w) a vs):ObjOk P w H h a (DN P w a kvs):=by
 obtain ⟨o,es,ep,ho,r⟩:=id dd
 refine ⟨⟨hl,hd,vs,rel,dd⟩,⟨o,ho⟩,fun h1 h2 x k=>?_⟩
 obtain ⟨z1,z2,ws,z3,o',es',ep',ho',r'⟩:=x
 exact ⟨z1,z2,ws,z3,o',es',ep',k _ ho',r'⟩
theorem dn_of (I:Inv X pins σ H s) (e:H a=some (DN X.prog X.w a kvs)):kvs.length<=sizeLine/\(a == sysModules)=false/\∃ vs,KV kvs vs/\s.heap.DictOf (optKind X.prog X.w) a vs:=(I.hok a _ e).1
theorem dn_type (I:Inv X pins σ H s) (e:H a=some (DN X.prog X.w a kvs)):s.TypeIs (.ref a) "dict"/\∀ b,Value.ref a=.ref b->∃ ob,s.heap.get? b=some ob/\ob.dict=none:=by
 obtain ⟨_,_,vs,_,dd⟩:=dn_of I e
 refine ⟨dd.typeIs,fun b q=>?_⟩
 cases q
 obtain ⟨ob,_,_,h1,h2,_⟩:=dd
 exact ⟨ob,h1,h2.2.1⟩
end
def tDNewN (P:Program) (w:World):TE:=fun _ H Q=>∀ p,H p=none->Q (.ref p) (upd H p (DN P w p []))
theorem pe_dnewN {X:Cx} {pos:Pos}:PE X (.Dict [] [] pos) (tDNewN X.prog X.w):=fun pins s σ H Q I h=>
 wpAny_Dict_empty ⟨.ref s.heap.objs.size,_,I.laid (a:=s.heap.objs.size) (o:=DN X.prog X.w s.heap.objs.size []) (t':=s.toks) (fun _ _ q=>Heap.get?_push_of_some _ q) (Nat.le_refl _) (dn_ok (Nat.zero_le _) (beq_eq_false_iff_ne.mpr (Ne.symm (Nat.ne_of_lt I.big))) .nil (Heap.DictOf.new s.heap)),rfl,h _ (I.hok.fresh (Nat.le_refl _))⟩
section
variable {X:Cx} {o e:Expr} {es:List Expr} {to:TE} {t:TA} {name:Str} {apos cpos:Pos} {id:String} {r:V->List V->Hp->VK->Prop}
def tBMN (P:Program) (w:World) (r:V->List V->Hp->VK->Prop) (to:TE) (t:TA):TE:=fun σ H Q=>to σ H fun x H1=>∃ a kvs,x=.ref a/\H1 a=some (DN P w a kvs)/\t σ H1 fun xs H2=>r x xs H2 Q
def tBMN0 (P:Program) (w:World) (r:V->List V->Hp->VK->Prop) (to:TE):TE:=fun σ H Q=>to σ H fun x H1=>∃ a kvs,x=.ref a/\H1 a=some (DN P w a kvs)/\r x [] H1 Q
theorem pe_bmN0 (slot:Slot "dict" name id) (hty:typeOf (.builtin id)=pure (.type "method_descriptor")) (hm:MtM X id r) (ho:PE X o to)
  (hbase:attributeBase o name X.env (eval o X.env)=eval o X.env:=by rfl) (hline:(apos.endLine == cpos.line)=true:=by rfl):PE X (.Call (.Attribute o name apos) [] [] cpos) (tBMN0 X.prog X.w r to):=by
 intro pins s σ H Q I h
 refine wpAny_Call_method0_late hbase hline (thn (ho pins s σ H _ I h) fun v s1 ⟨x,H1,I1,r1,a,kvs,ex,hd,q1⟩=>?_)
 subst ex
 cases r1
 obtain ⟨h1,h2⟩:=dn_type I1 hd
 exact ⟨"dict",id,F.plainAttrs_dict,slot,hty,h1,h2,Calls.callWith_builtin rfl (PySem.evalArgs_none (hm pins s1 σ H1 (.ref a) [] _ [] Q I1 rfl .nil q1))⟩
theorem pe_bmN (slot:Slot "dict" name id) (hty:typeOf (.builtin id)=pure (.type "method_descriptor")) (hm:MtM X id r) (ho:PE X o to) (ha:PA X (e :: es) t)
  (hbase:attributeBase o name X.env (eval o X.env)=eval o X.env:=by rfl)
  (hfew:((backTo cpos (starEach (e :: es) X.env)).all (fun x=>!x.1) && (backToKw cpos (keywordEach [] X.env)).all (fun x=>x.1.isSome)
   && decide ((e :: es).length+([]:List Keyword).length+(if ([]:List Keyword).isEmpty then 0 else 1) < 30))=true:=by rfl)
  (hline:(apos.endLine == cpos.line)=true:=by rfl) (hs:starEach (e :: es) X.env=(false,eval e X.env) :: starEach es X.env:=by rfl) (hplain:(backTo cpos (starEach es X.env)).any (·.1)=false:=by rfl) :
  PE X (.Call (.Attribute o name apos) (e :: es) [] cpos) (tBMN X.prog X.w r to t):=by
 intro pins s σ H Q I h
 refine wpAny_Call_method_late hbase hfew hline rfl (thn (ho pins s σ H _ I h) fun v s1 ⟨x,H1,I1,r1,a,kvs,ex,hd,q1⟩=>?_)
 subst ex
 cases r1
 obtain ⟨h1,h2⟩:=dn_type I1 hd
 refine ⟨"dict",id,F.plainAttrs_dict,slot,hty,h1,h2,?_⟩
 have hA:=ha cpos pins s1 σ H1 _ I1 q1
 rw [hs] at hA ⊢
 refine Calls.callWith_builtin (by show (false || (backTo cpos (starEach es X.env)).any (·.1))=false;rw [hplain] <;> rfl) (Calls.evalArgs_plain ?_)
 exact thn hA fun us s2 ⟨vs,H2,I2,r2,q2⟩=>hm pins s2 σ H2 (.ref a) vs _ us Q I2 rfl r2 q2
end
section
variable {X:Cx}
def rDGetN (P:Program) (w:World):V->List V->Hp->VK->Prop:=fun x vs H Q=>∃ a kvs k y,x=.ref a/\vs=[optV k,y]/\H a=some (DN P w a kvs)/\Q ((valV kvs k).getD y) H
theorem mt_dgetN:MtM X "dict.get" (rDGetN X.prog X.w):=by
 intro pins s σ H x vs v us Q I rx rv h
 obtain ⟨a,kvs,k,y,rfl,rfl,e,q⟩:=h
 cases rx
 obtain ⟨u1,u2,rfl,r1,r2⟩:=vals2 rv
 obtain ⟨z,hd,ws,rel,dd⟩:=dn_of I e
 exact call_meetsIn PySem.F.slot_dict_get dd.typeIs PySem.F.entry_dict_get (PySem.F.args_dict_get_3 _ _ _) (meets_dict_get_default (optKind X.prog X.w) a (optV_is r1) hd u2) ⟨_,dd.mapOf,_,H,I.tok _,(rel.val k).getD r2,q⟩
def rSetN (P:Program) (w:World):V->V->V->Hp->(Hp->Prop)->Prop:=fun o i v H Q=>∃ a kvs k,o=.ref a/\i=optV k/\H a=some (DN P w a kvs)/\kvs.length < sizeLine/\Q (upd H a (DN P w a (putK kvs k v)))
theorem set_dictN:PSet X (rSetN X.prog X.w):=by
 intro pins s σ H o i v ov iv u Q I ro ri rv h
 obtain ⟨a,kvs,k,rfl,rfl,e,l,q⟩:=h
 cases ro
 obtain ⟨z,hd,vs,rel,dd⟩:=dn_of I e
 have hz:vs.length<=sizeLine:=by rw [<-rel.length];exact z
 have hl:(putK kvs k v).length<=sizeLine:=by have:=length_putK kvs k v;omega
 refine wpAny_setItem_pairs (hsz:=hz) (optV_is ri) dd fun h' dd' hs=>⟨_,?_,q⟩
 have he:∃ q,h'.get? a=some q:=let ⟨q,_,_,hq,_⟩:=dd';⟨q,hq⟩
 exact d_write I (by rw [e];exact True.intro) hs he (dn_ok hl hd (rel.put k rv) dd')
def rItemsN (P:Program) (w:World):V->List V->Hp->VK->Prop:=fun x vs H Q=>∃ a kvs,x=.ref a/\vs=[]/\H a=some (DN P w a kvs)/\∀ v,H v=none->Q (.ref v) (upd H v (ViewO v a))
theorem mt_itemsN:MtM X "dict.items" (rItemsN X.prog X.w):=by
 intro pins s σ H x vs v us Q I rx rv h
 obtain ⟨a,kvs,rfl,rfl,e,q⟩:=h
 cases rx
 cases rv
 obtain ⟨z,hd,ws,rel,dd⟩:=dn_of I e
 refine call_meetsIn PySem.F.slot_dict_items dd.typeIs PySem.F.entry_dict_items (PySem.F.args_dict_items_1 _) (meets_dict_items (optKind X.prog X.w) a hd) ⟨⟨_,dd⟩,.ref s.heap.objs.size,_,I.laid (a:=s.heap.objs.size) (o:=ViewO s.heap.objs.size a) (t':=s.toks) (fun _ _ q=>Heap.get?_push_of_some _ q) (Nat.le_refl _) ?_,rfl,q _ (I.hok.fresh (Nat.le_refl _))⟩
 exact ⟨Heap.get?_push_size _ rfl,⟨_,Heap.get?_push_size _ rfl⟩,fun h1 h2 x k=>k _ x⟩
end
end L2
namespace PySem
open AutoSeq1 (wpAny_loadPart')
open PySem.W (KdxG kdx_collect)
theorem tuple_of_items {prog:Program} {w:World} {K:Type} [DecidableEq K] {knd:KeyKind prog w K} {r d:Addr} {kvs:List (K × Value)} {ep:Nat} (hn:kvs.length<=sizeLine) :
  MeetsIn prog w (Builtin.«tuple.__new__» ⟨[.type "tuple",.ref r],[]⟩)
   (fun A R s=>A.handled=none/\s.heap.IsItemsView r d/\s.heap.DictAt knd d kvs ep/\∀ (h':Heap) (tk:Nat) (as:List Addr),(∀ b o,s.heap.get? b=some o->h'.get? b=some o)->as.length=kvs.length->KdxG knd kvs s.heap.objs.size h' as →
    R (.ok (.ret (.ref h'.objs.size))) { s with heap:=h'.push { cls:=.type "tuple",data:=.seq (as.map Value.ref).toArray },toks:=tk }):=
 .of_wp fun A R s h=>by
  obtain ⟨hh,hv,hm,h⟩:=h
  have hsub:=sub_tuple_self
  have hinit:=init_tuple_lookup
  have hmh:=madeHere_tuple
  obtain ⟨o,ho,hc,hd⟩:=id hv
  have hT:s.TypeIs (.ref r) "dict_items" := ⟨o,ho,hc⟩
  have hh1:A.in1.handled=none:=hh
  wp_walk using wpAny_loadPart' ho,wpAny_typeOf hT,kdx_collect (knd:=knd) (kvs:=kvs) (ep:=ep) (d:=d) hh1 hv hm hn
  intro h' tk as hk hl hG
  show wpAny _ _ (Builtin.Tuple.tupleExact (as.map Value.ref).toArray >>= fun v=>ret v) _ _ _
  unfold Builtin.Tuple.tupleExact
  refine wpAny_bind (wpAny_newObj_type ?_ (show (as.map Value.ref).toArray.size<=sizeLine by rw [List.size_toArray,List.length_map,hl];exact hn))
  exact wpAny_pure ⟨_,rfl,h h' tk as hk hl hG⟩
theorem call_tuple_items {prog:Program} {w:World} {K:Type} [DecidableEq K] {knd:KeyKind prog w K} {A:Around} {E:Value->Shared->Prop} {s:Shared} {r d:Addr} {kvs:List (K × Value)} {ep:Nat} {Q:Value->Shared->Prop} (hh:A.handled=none) (hv:s.heap.IsItemsView r d) (hm:s.heap.DictAt knd d kvs ep) (hn:kvs.length<=sizeLine)
  (h:∀ (h':Heap) (tk:Nat) (as:List Addr),(∀ b o,s.heap.get? b=some o->h'.get? b=some o)->as.length=kvs.length->KdxG knd kvs s.heap.objs.size h' as →
    Q (.ref h'.objs.size) { s with heap:=h'.push { cls:=.type "tuple",data:=.seq (as.map Value.ref).toArray },toks:=tk }):wpAny (model prog w) A (call (.type "tuple") [.ref r]) Q E s:=
 callType_newIn F.called_tuple (by decide) (F.typeCall_tuple_1 _) (F.newCall_tuple_1 _) (fun obj=>F.args_object_init_2 obj _) F.entry_tuple_new
  (tuple_of_items (knd:=knd) (ep:=ep) (d:=d) hn) ⟨hh,hv,hm,fun h' tk as hk hl hG=>⟨⟨_,Heap.get?_push_size _ rfl,rfl⟩,h h' tk as hk hl hG⟩⟩
end PySem
namespace L2
open PySem PySem.Spec PyProof.Rows
def updAll (H:Hp) (os:List (Addr × HO)):Hp:=fun b=>match os.find? (fun p=>p.1 == b) with | some p=>some p.2 | none=>H b
theorem updAll_in {H:Hp} {os:List (Addr × HO)} {b:Addr} {p:Addr × HO} (e:os.find? (fun p=>p.1 == b)=some p):updAll H os b=some p.2:=by unfold updAll;rw [e]
theorem updAll_out {H:Hp} {os:List (Addr × HO)} {b:Addr} (h:∀ p ∈ os,p.1 ≠ b):updAll H os b=H b:=by
 unfold updAll
 rw [List.find?_eq_none.mpr fun p hp=>by rw [beq_iff_eq];exact h p hp]
theorem updAll_mem {H:Hp} {os:List (Addr × HO)} {p:Addr × HO} (hn:(os.map (·.1)).Nodup) (h:p ∈ os):updAll H os p.1=some p.2:=by
 induction os with
 | nil=>cases h
 | cons q r ih=>
  unfold updAll
  rw [List.map_cons,List.nodup_cons] at hn
  rcases List.mem_cons.mp h with rfl | h
  ·rw [List.find?_cons_of_pos (by simp)]
  ·rw [List.find?_cons_of_neg (by
    rw [beq_iff_eq]
    intro e
    exact hn.1 (e ▸ List.mem_map.mpr ⟨p,h,rfl⟩))]
   exact ih hn.2 h
section
variable {X:Cx} {pins:List (Addr × Obj)} {σ:St} {H:Hp} {s:Shared}
theorem Inv.lays {h':Heap} {t':Nat} (I:Inv X pins σ H s) (k:∀ b u,s.heap.get? b=some u->h'.get? b=some u) (os:List (Addr × HO)) (hp:∀ p ∈ os,s.heap.objs.size<=p.1) (new:∀ p ∈ os,∀ H2,ObjOk X.prog X.w H2 h' p.1 p.2):Inv X pins σ (updAll H os) { s with heap:=h',toks:=t' }:=by
 have old:∀ b,b < s.heap.objs.size->updAll H os b=H b:=fun b hb=>updAll_out fun p hp' e=>absurd (e ▸ hp p hp') (Nat.not_le_of_lt hb)
 have oldH:∀ b u,H b=some u->updAll H os b=H b:=fun b u e=>old b (I.hok b u e).lt
 refine I.un ⟨fun b u q _ _ _=>k b u q,fun b u q _ _ _=>⟨u.slots,k b u q⟩,fun b u q n _=>by rw [old b (Heap.lt_size q)];exact n,fun b u q _=>⟨u,k b u q⟩,fun b xs q=>by rw [oldH b _ q];exact q,fun b u xs q=>by rw [oldH b _ q];exact q,fun b ps q=>⟨#[],by rw [oldH b _ q,q];simp⟩⟩ ?_
 intro b u e
 cases ef:os.find? (fun p=>p.1 == b) with
 | some p=>
  rw [updAll_in ef] at e
  cases e
  have h1:=List.mem_of_find?_eq_some ef
  have h2:=List.find?_some ef
  rw [beq_iff_eq] at h2
  subst h2
  exact new p h1 _
 | none=>
  have e2:H b=some u:=by unfold updAll at e;rw [ef] at e;exact e
  exact (I.hok b u e2).stay (fun c v _ q=>k c v q) (fun c q=>by rw [oldH c _ q];exact q) fun c xs q=>by rw [oldH c _ q];exact q
end
structure PairsAt (H:Hp) (as:List Addr) (kvs:List (Option Str × V)):Prop where
 len:as.length=kvs.length
 item:∀ (i:Nat) (a:Addr) (k:Option Str) (v:V),as[i]?=some a->kvs[i]?=some (k,v)->H a=some (.tup [optV k,v])
theorem optV_rel {P:Program} {w:World} {k:Option Str} {u:Value} (h:(optKind P w).is k u=true):RelV (optV k) u:=by
 rcases optIs_shape (show optIs k u=true from h) with ⟨rfl,rfl⟩ | ⟨x,t,rfl,rfl⟩
 ·rfl
 ·exact ⟨t,rfl⟩
theorem vals_refs:∀ as:List Addr,Vals (as.map V.ref) (as.map Value.ref)
 | []=>.nil
 | a :: r=>.cons rfl (vals_refs r)
theorem Paired.at {α β:Type} {F:α->β->Prop}:∀ {xs:List α} {ys:List β} {i:Nat} {x:α},Paired F xs ys->xs[i]?=some x->∃ y,ys[i]?=some y/\F x y
 | _,_,_,_,.nil,e=>by simp at e
 | _,_,0,_,.cons r _,e=>by simp at e;subst e;exact ⟨_,rfl,r⟩
 | _,_,i+1,x,.cons _ t,e=>by
  obtain ⟨u,h1,h2⟩:=Paired.at (i:=i) (x:=x) t (by simpa using e)
  exact ⟨u,by simpa using h1,h2⟩
theorem call_tuple_view {X:Cx} (hc:X.calm=true):CallR X (.type "tuple") (fun xs H Q=>∃ v a kvs,xs=[.ref v]/\H v=some (ViewO v a)/\H a=some (DN X.prog X.w a kvs) ∧
  ∀ (H':Hp) (t:Addr) (as:List Addr),(∀ b o,H b=some o->H' b=some o)->H t=none->H' t=some (.tup (as.map V.ref))->PairsAt H' as kvs->Q (.ref t) H'):=by
 intro pins s σ H xs us Q I r h
 obtain ⟨v,a,kvs,rfl,hv,ha,q⟩:=h
 obtain ⟨u,rfl,rx⟩:=vals1 r
 cases rx
 obtain ⟨z,hd,ws,rel,dd⟩:=dn_of I ha
 obtain ⟨o,es,ep,ho,rr⟩:=dd
 have hview:s.heap.IsItemsView v a:=⟨_,(I.hok v _ hv).1,rfl,rfl⟩
 have hz:ws.length<=sizeLine:=by rw [<-rel.length];exact z
 refine call_tuple_items (knd:=optKind X.prog X.w) (kvs:=ws) (ep:=ep) (d:=a) (I.ok.hd hc) hview ⟨o,es,ho,rr⟩ hz fun h' tk as hk hl hG=>?_
 have hlk:as.length=kvs.length:=by rw [hl,rel.length]
 have enames:(((as.zip kvs).map fun p=>(p.1,HO.tup [optV p.2.1,p.2.2])).map fun q=>q.1)=as:=by
  rw [List.map_map]
  exact List.map_fst_zip (Nat.le_of_eq hlk)
 have hnd:(((as.zip kvs).map fun p=>(p.1,HO.tup [optV p.2.1,p.2.2])).map fun q=>q.1).Nodup:=by
  rw [enames]
  exact hG.rise.imp fun h=>Nat.ne_of_lt h
 have I1:=I.lays (h':=h') (t':=tk) hk ((as.zip kvs).map fun p=>(p.1,HO.tup [optV p.2.1,p.2.2])) (fun p hp=>by
   have h1:p.1 ∈ as:=by rw [<-enames];exact List.mem_map.mpr ⟨p,hp,rfl⟩
   exact Nat.le_of_lt (hG.above _ h1)) (fun p hp H2=>by
   obtain ⟨x,hx,rfl⟩:=List.mem_map.mp hp
   obtain ⟨j,hj⟩:=List.mem_iff_getElem?.mp hx
   obtain ⟨h1,h2⟩:=List.getElem?_zip_eq_some.mp hj
   obtain ⟨key,k',x',e1,e2,e3⟩:=hG.pairs j _ h1
   obtain ⟨y,ey,r1,r2⟩:=Paired.at rel h2
   rw [e1] at ey
   cases ey
   refine ⟨by show 2<=sizeLine;rw [sizeLine_eq];omega,[key,x'],.cons ?_ (.cons r2 .nil),_,e3,rfl,0,rfl⟩
   have r1:x.2.1=k':=r1
   rw [r1]
   exact optV_rel e2)
 have I2:Inv X pins σ (upd (updAll H ((as.zip kvs).map fun p=>(p.1,HO.tup [optV p.2.1,p.2.2]))) h'.objs.size (.tup (as.map V.ref))) { s with heap:=h'.push { cls:=.type "tuple",data:=.seq (as.map Value.ref).toArray },toks:=tk }:=
  I1.laid (t':=tk) (fun b o e=>Heap.get?_push_of_some _ e) (Nat.le_refl _) (show ObjOk X.prog X.w _ _ _ (.tup (as.map V.ref)) from ⟨by rw [List.length_map,hlk];exact z,as.map Value.ref,vals_refs as,IsTup.new _ _⟩)
 have hfr:=I1.hok.fresh (Nat.le_refl _)
 have keepsAll:∀ b o,H b=some o->updAll H ((as.zip kvs).map fun p=>(p.1,HO.tup [optV p.2.1,p.2.2])) b=some o:=fun b o e=>by
  rw [updAll_out fun p hp e2=>?_]
  ·exact e
  ·have h1:p.1 ∈ as:=by rw [<-enames];exact List.mem_map.mpr ⟨p,hp,rfl⟩
   exact absurd (e2 ▸ hG.above _ h1) (Nat.not_lt_of_lt (I.hok b o e).lt)
 have nt:∀ b o,updAll H ((as.zip kvs).map fun p=>(p.1,HO.tup [optV p.2.1,p.2.2])) b=some o->b ≠ h'.objs.size:=fun b o e e2=>by rw [e2,hfr] at e;cases e
 refine ⟨.ref h'.objs.size,_,I2,rfl,q _ _ as (fun b o e=>by rw [upd_ne (nt b o (keepsAll b o e))];exact keepsAll b o e) ?_ upd_same ⟨hlk,fun i c k y e1 e2=>?_⟩⟩
 ·cases e:H h'.objs.size with
  | none=>rfl
  | some o=>exact absurd rfl (nt _ o (keepsAll _ o e))
 ·have hm:=updAll_mem (H:=H) hnd (p:=(c,HO.tup [optV k,y])) (List.mem_map.mpr ⟨(c,k,y),List.mem_of_getElem? (List.getElem?_zip_eq_some.mpr ⟨e1,e2⟩),rfl⟩)
  rw [upd_ne (nt c _ hm)]
  exact hm
end L2
namespace L3
open PySem PySem.Spec PyProof.Rows L2
theorem comp_enumG {K:PySem.W.Frag} {t:Addr} {xs:List V} {H:Hp} {te:TE} {Q:VK} {rest:L2.St} (I:Nat->List V->Hp->Prop) (hs:∀ i acc H',i<=xs.length->I i acc H'->SqT K H' t xs) (hz:xs.length<=sizeLine) (h0:I 0 [] H)
  (hl:∀ i acc H',I i acc H'->acc.length=i) (hm:∀ i acc H' H'',I i acc H'->Same H' H''->I i acc H'')
  (he:∀ i x acc H',xs[i]?=some x->I i acc H'->∀ k:VK,(∀ y H2,I (i+1) (acc++[y]) H2->k y H2)->te (some (.int ((i:Nat):Int)) :: some x :: rest) H' k)
  (hq:∀ acc H',I xs.length acc H'->∀ D,H' D=none->Q (.ref D) (upd H' D (.lst acc))):wComp (Ite K t) (gTup K 2 (gCons (gName 0) (gCons (gName 1) gNil))) tYes te Q (none :: none :: rest) H:=by
 refine ⟨fun i m σ acc H'=>I i acc H'/\i<=xs.length/\m=xs.length - i/\∃ o1 o2,σ=o1 :: o2 :: rest,⟨xs.length,h0,Nat.zero_le _,rfl,none,none,rfl⟩,?_⟩
 rintro i m σ acc H' ⟨hI,hi,rfl,o1,o2,rfl⟩
 have hacc:=hl i acc H' hI
 have S:=hs i acc H' hi hI
 by_cases hlt:i < xs.length
 ·refine .inr ⟨⟨xs,xs[i],S,by simp [hlt]⟩,?_⟩
  rintro x H1 ⟨T,a',rfl,hT,rfl,hx⟩
  have S1:=same_upd (o:=.tup [.int ((i:Nat):Int),a']) hT
  have hTT:upd H' T (.tup [.int ((i:Nat):Int),a']) T=some (.tup [.int ((i:Nat):Int),a']):=upd_same
  refine ⟨T,_,rfl,SqT.of hTT,rfl,_,_,rfl,_,_,rfl,rfl,?_⟩
  show te (some (.int ((i:Nat):Int)) :: some a' :: rest) _ _
  exact he i a' acc _ (hx xs S) (hm i acc _ _ hI S1) _ fun y H2 h2=>⟨by omega,xs.length - (i+1),by omega,h2,hlt,rfl,_,_,rfl⟩
 ·have e:i=xs.length:=by omega
  subst e
  exact .inl ⟨⟨xs,S,Nat.le_refl _⟩,by omega,fun D hD=>hq acc H' hI D hD⟩
end L3
namespace Vm
open PySem PySem.Spec PyProof.Rows L2 L3
def entStep (e0:V) (us:List V) (x:V):List V:=if x=e0 then us else if x ∈ us then us else us++[x]
def entTo (es:List V) (i:Nat):List V:=(es.take i).foldl (entStep (es.getD 0 .non)) []
def rowsTo (es:List V) (x:V) (n:Nat):List Nat:=(List.range n).filter fun k=>decide (es.getD k .non=x)
def rdgsOf (es:List V):List Rdg:=(entTo es es.length).map fun x=>(x,rowsTo es x es.length)
theorem entTo_step {es:List V} {i:Nat} {x:V} (h:es[i]?=some x):entTo es (i+1)=entStep (es.getD 0 .non) (entTo es i) x:=by
 unfold entTo
 rw [List.take_add_one,h,List.foldl_append]
 rfl
theorem rowsTo_step (es:List V) (x:V) (n:Nat):rowsTo es x (n+1)=rowsTo es x n++(if es.getD n .non=x then [n] else []):=by
 unfold rowsTo
 rw [List.range_succ,List.filter_append]
 by_cases h:es.getD n .non=x
 ·rw [if_pos h,List.filter_cons_of_pos (by exact decide_eq_true h)]
  rfl
 ·rw [if_neg h,List.filter_cons_of_neg (by rw [decide_eq_false h];exact Bool.false_ne_true)]
  rfl
theorem rowsTo_len (es:List V) (x:V) (n:Nat):(rowsTo es x n).length<=n:=by
 unfold rowsTo
 exact Nat.le_trans (List.length_filter_le _ _) (by rw [List.length_range];exact Nat.le_refl _)
theorem rowsTo_lt {es:List V} {x:V} {n k:Nat} (h:k ∈ rowsTo es x n):k < n:=List.mem_range.mp (List.mem_filter.mp h).1
theorem entStep_mem {e0 x y:V} {us:List V} (h:y ∈ entStep e0 us x):y ∈ us\/y=x/\x ≠ e0:=by
 unfold entStep at h
 split at h
 ·exact .inl h
 ·rename_i h1
  split at h
  ·exact .inl h
  ·rcases List.mem_append.mp h with h | h
   ·exact .inl h
   ·exact .inr ⟨List.mem_singleton.mp h,h1⟩
theorem entTo_mem {es:List V} {y:V}:∀ i:Nat,y ∈ entTo es i->y ∈ es/\y ≠ es.getD 0 .non
 | 0,h=>nomatch h
 | i+1,h=>by
  cases e:es[i]? with
  | none=>
   have:entTo es (i+1)=entTo es i:=by unfold entTo;rw [List.take_add_one,e];simp
   rw [this] at h
   exact entTo_mem i h
  | some x=>
   rw [entTo_step e] at h
   rcases entStep_mem h with h | ⟨rfl,h⟩
   ·exact entTo_mem i h
   ·exact ⟨List.mem_of_getElem? e,h⟩
theorem entStep_len {e0 x:V} {us:List V}:(entStep e0 us x).length<=us.length+1:=by
 unfold entStep
 split
 ·omega
 ·split
  ·omega
  ·rw [List.length_append];exact Nat.le_refl _
theorem entTo_len (es:List V):∀ i:Nat,(entTo es i).length<=i
 | 0=>Nat.le_refl _
 | i+1=>by
  have:=entTo_len es i
  cases e:es[i]? with
  | none=>
   have h:entTo es (i+1)=entTo es i:=by unfold entTo;rw [List.take_add_one,e];simp
   rw [h];omega
  | some x=>
   rw [entTo_step e]
   have:=entStep_len (e0:=es.getD 0 .non) (x:=x) (us:=entTo es i)
   omega
theorem rows_none {es:List V} {x:V}:∀ i:Nat,i<=es.length->x ∉ entTo es i->x ≠ es.getD 0 .non->rowsTo es x i=[]
 | 0,_,_,_=>rfl
 | i+1,hi,h,h0=>by
  have e:=List.getElem?_eq_getElem (l:=es) (i:=i) (by omega)
  rw [entTo_step e] at h
  have h1:x ∉ entTo es i:=fun z=>h (by
   unfold entStep
   split
   ·exact z
   ·split
    ·exact z
    ·exact List.mem_append_left _ z)
  have h2:es.getD i .non ≠ x:=fun z=>h (by
   have ez:es[i]=x:=by rw [<-z,List.getD_eq_getElem?_getD,e];rfl
   rw [ez]
   unfold entStep
   rw [if_neg h0,if_neg h1]
   exact List.mem_append_right _ (List.mem_singleton.mpr rfl))
  rw [rowsTo_step,if_neg h2,rows_none i (by omega) h1 h0]
  rfl
theorem rdgs_ok {es:List V} (hE:∀ e ∈ es,Ent e) (hl:es.length<=30) {x:V} (hx:x ∈ entTo es es.length):RdgOk (x,rowsTo es x es.length):=
 ⟨hE x (entTo_mem _ hx).1,by have:=rowsTo_len es x es.length;show (rowsTo es x es.length).length<=30;omega,fun n hn=>by have:=rowsTo_lt (show n ∈ rowsTo es x es.length from hn);omega⟩
def notesTo (cs:List (List V)) (n:Nat):List (Nat × List Rdg):=((List.range n).map fun i=>(i,rdgsOf (cs.getD i []))).filter fun p=>!p.2.isEmpty
def toldN (y:Note):Nat × List Rdg:=(y.1,y.2.map fun z=>z.2)
def vKey:V->Option Str
 | .str z=>some z
 | _=>none
theorem vKey_ent {x:V} (h:Ent x):L2.optV (vKey x)=x:=by
 rcases h with rfl | ⟨z,_,rfl⟩ <;> rfl
theorem vKey_inj {x y:V} (h:Ent x) (h2:Ent y) (e:vKey x=vKey y):x=y:=by rw [<-vKey_ent h,<-vKey_ent h2,e]
def dnOf (ps:List (V × Addr)):List (Option Str × V):=ps.map fun q=>(vKey q.1,V.ref q.2)
theorem dn_none {ps:List (V × Addr)} {x:V} (hp:∀ q ∈ ps,Ent q.1) (hx:Ent x) (h:x ∉ ps.map (·.1)):valV (dnOf ps) (vKey x)=none:=by
 induction ps with
 | nil=>rfl
 | cons q r ih=>
  rw [List.map_cons,List.mem_cons,not_or] at h
  show valV ((vKey q.1,V.ref q.2) :: dnOf r) (vKey x)=none
  rw [valV_neg (fun e=>h.1 (vKey_inj hx (hp q List.mem_cons_self) e.symm))]
  exact ih (fun q hq=>hp q (List.mem_cons_of_mem _ hq)) h.2
theorem dn_some {ps:List (V × Addr)} {x:V} (hp:∀ q ∈ ps,Ent q.1) (hx:Ent x) (h:x ∈ ps.map (·.1)):∃ a,(x,a) ∈ ps/\valV (dnOf ps) (vKey x)=some (.ref a):=by
 induction ps with
 | nil=>cases h
 | cons q r ih=>
  by_cases c:x=q.1
  ·refine ⟨q.2,by rw [c];exact List.mem_cons_self,?_⟩
   show valV ((vKey q.1,V.ref q.2) :: dnOf r) (vKey x)=_
   rw [valV_pos (by rw [c])]
  ·rw [List.map_cons,List.mem_cons] at h
   obtain ⟨a,ha,e⟩:=ih (fun q hq=>hp q (List.mem_cons_of_mem _ hq)) (h.resolve_left c)
   refine ⟨a,List.mem_cons_of_mem _ ha,?_⟩
   show valV ((vKey q.1,V.ref q.2) :: dnOf r) (vKey x)=_
   rw [valV_neg (fun e=>c (vKey_inj hx (hp q List.mem_cons_self) e.symm))]
   exact e
theorem dn_put {ps:List (V × Addr)} {x:V} {a:Addr} (hp:∀ q ∈ ps,Ent q.1) (hx:Ent x) (h:x ∈ ps.map (·.1)):putK (dnOf ps) (vKey x) (.ref a)=dnOf (ps.map fun q=>if q.1=x then (q.1,a) else q):=by
 obtain ⟨b,_,e⟩:=dn_some hp hx h
 unfold putK
 rw [if_pos (by rw [valV_any,e];rfl)]
 unfold dnOf
 rw [List.map_map,List.map_map]
 refine List.map_congr_left fun q hq=>?_
 show (if vKey q.1=vKey x then (vKey q.1,V.ref a) else (vKey q.1,V.ref q.2))=(vKey (if q.1=x then (q.1,a) else q).1,V.ref (if q.1=x then (q.1,a) else q).2)
 by_cases c:q.1=x
 ·rw [if_pos (by rw [c]),if_pos c]
 ·rw [if_neg (fun e=>c (vKey_inj (hp q hq) hx e)),if_neg c]
theorem dn_new {ps:List (V × Addr)} {x:V} {a:Addr} (hp:∀ q ∈ ps,Ent q.1) (hx:Ent x) (h:x ∉ ps.map (·.1)):putK (dnOf ps) (vKey x) (.ref a)=dnOf (ps++[(x,a)]):=by
 rw [putK_new _ (dn_none hp hx h)]
 unfold dnOf
 rw [List.map_append]
 rfl
theorem zip_fst {α β γ:Type} (f:α->γ):∀ (as:List α) (bs:List β),as.length=bs.length->List.zipWith (fun a _=>f a) as bs=as.map f
 | [],[],_=>rfl
 | a :: r,b :: t,h=>by
  show f a :: _=f a :: _
  rw [zip_fst f r t (Nat.succ.inj h)]
theorem zip_snd {α β γ:Type} (f:β->γ):∀ (as:List α) (bs:List β),as.length=bs.length->List.zipWith (fun _ b=>f b) as bs=bs.map f
 | [],[],_=>rfl
 | a :: r,b :: t,h=>by
  show f b :: _=f b :: _
  rw [zip_snd f r t (Nat.succ.inj h)]
end Vm
namespace L3
open PySem PySem.Spec PyProof.Rows L2
def Iel (K:PySem.W.Frag) (t:Addr):It:=⟨fun i H=>∃ xs a,SqL K H t xs/\xs[i]?=some a,
 fun i H x H'=>∃ T a,x=.ref T/\H T=none/\H'=upd H T (.tup [.int ((i:Nat):Int),a])/\∀ xs,SqL K H t xs->xs[i]?=some a,
 fun i H=>∃ xs,SqL K H t xs/\xs.length<=i⟩
theorem turn_enumL {P:Program} {w:World} {K:PySem.W.Frag} {es:List Expr} {x1:Nat} {tpos:Pos} {z c t:Addr} (n1:c ≠ z) :
  Turn P w K (.Tuple es x1 tpos) (Iel K t) [z,c] z (fun i h=>(∃ old,IsEnum h z c ((i:Nat):Int) old)/\h.IsListIter c t i) where
 mem:=by simp
 obj:=fun i h st b hb=>by
  obtain ⟨⟨old,q1⟩,⟨o1,e1,_,d1⟩⟩:=st
  simp only [List.mem_cons,List.not_mem_nil,or_false] at hb
  rcases hb with rfl | rfl
  ·exact ⟨_,q1,fun v u=>nomatch u⟩
  ·exact ⟨_,e1,fun v u=>by rw [d1] at u;cases u⟩
 keep:=fun i h h' st kp=>by
  obtain ⟨⟨old,q1⟩,q4⟩:=st
  exact ⟨⟨old,kp z (by simp) _ q1⟩,q4.at fun o e=>kp c (by simp) o e⟩
 item:=by
  intro X hP hw hK hc i pins s σ H E I hf st hg
  subst hP hw hK
  obtain ⟨⟨old,q1⟩,q4⟩:=st
  obtain ⟨xs,a,hx,ex⟩:=hg
  obtain ⟨us,ru,pu,zu⟩:=I.list hx
  obtain ⟨u,eu,ra⟩:=ru.get ex
  refine wpAny_pyNext_enum_item q1 q4 pu.isList (x:=u) (by simpa using eu) n1.symm fun g g1 g3 g5 _ kp=>⟨_,rfl,?_⟩
  refine wpAny_letOwnedTupleGo_enum (s:={ s with heap:=g,toks:=s.toks+1 }) g1 fun h2 hz2 sb=>?_
  have lt:∀ {b o},s.heap.get? b=some o->s.heap.objs.size ≠ b:=fun e=>Nat.ne_of_gt (Heap.lt_size e)
  have kp2:∀ b o,b ∉ [z,c]->s.heap.get? b=some o->h2.get? b=some o:=fun b o n e=>by
   simp only [List.mem_cons,List.not_mem_nil,or_false,not_or] at n
   exact sb.extBut _ _ n.1 (kp b o n.1 n.2 e)
  have I1:Inv X pins σ H { s with heap:=h2,toks:=s.toks+1 }:=turnedL (t':=s.toks+1) I kp2 hf
  have T2:h2.get? s.heap.objs.size=some { cls:=.type "tuple",data:=.seq #[.int i s.toks,u] }:=sb.extBut _ _ (lt q1) g5
  have hN:H s.heap.objs.size=none:=I.hok.fresh (Nat.le_refl _)
  have I2:Inv X pins σ (upd H s.heap.objs.size (.tup [.int ((i:Nat):Int),a])) { s with heap:=h2,toks:=s.toks+1 }:=inv_track I1 (Heap.get?_none_of_le I.sz) (Nat.ne_of_gt I.lt)
   (fun y b ec=>by obtain ⟨_,o,ho,_⟩:=I.cell y b ec;exact Ne.symm (lt ho)) (fun p hp=>Ne.symm (lt (I.pin p hp).1)) hN
   ⟨few (by show 2<=_;omega),[.int i s.toks,u],.cons ⟨_,rfl⟩ (.cons ra .nil),⟨_,T2,rfl,0,rfl⟩⟩
  refine ⟨.ref s.heap.objs.size,_,I2,rfl,⟨_,a,rfl,hN,rfl,fun xs' hx'=>by rw [I.list_inj hx' hx];exact ex⟩,⟨⟨u,?_⟩,?_⟩,fun b hb=>?_⟩
  ·have e:((i+1:Nat):Int)=(i:Int)+1:=by omega
   rw [e];exact hz2
  ·exact g3.extBut sb.extBut n1
  ·have ne:b ≠ s.heap.objs.size:=by
    simp only [List.mem_cons,List.not_mem_nil,or_false] at hb
    obtain ⟨o1,e1,_⟩:=q4
    rcases hb with rfl | rfl
    ·exact Ne.symm (lt q1)
    ·exact Ne.symm (lt e1)
   rw [upd_ne ne];exact (hf b hb).1
 done:=by
  intro X hP hw hK hc i pins s σ H E I hf st hg
  subst hP hw hK
  obtain ⟨⟨old,q1⟩,q4⟩:=st
  obtain ⟨xs,hx,he⟩:=hg
  obtain ⟨us,ru,pu,zu⟩:=I.list hx
  have l1:=ru.length
  refine wpAny_pyNext_enum_end (I.ok.hd hc) q1 q4 pu.isList (by simp;omega) fun g kp=>⟨rfl,turnedL (t':=s.toks) I (fun b o n e=>?_) hf⟩
  simp only [List.mem_cons,List.not_mem_nil,or_false,not_or] at n
  exact kp b o n.2 e
 self:=fun _ _ _ _ _ st h=>by
  obtain ⟨⟨old,q1⟩,_⟩:=st
  exact wpAny_pyIter_enum q1 h
section
variable {X:Cx} {es:List Expr} {x1:Nat} {tpos:Pos}
def iEnumL (K:PySem.W.Frag) (ta:TA):TI:=fun σ H R=>ta σ H fun vs H1=>∃ t:Addr,vs=[.ref t]/\(∃ xs,SqL K H1 t xs)/\R (Iel K t) H1
theorem pi_enumL {a:Expr} {ta:TA} {p pos:Pos} (hg:Gl X "enumerate") (hm:X.mg "enumerate" = none) (ha:PA X [a] ta) (hs:starEach [a] X.env=[(false,eval a X.env)]:=by rfl) :
  PI X (.Tuple es x1 tpos) (.Call (.Name "enumerate" p) [a] [] pos) (iEnumL X.K ta):=by
 intro pins s σ H R I h
 refine Call_ (ld_blt I hg hm PyProof.Rows.boot_enumerate (PyProof.Rows.callWith_type1 (thn (ha pos pins s σ H _ I h) fun us s1 ⟨vs,H1,I1,r1,q1⟩=>?_) (by rw [hs];rfl) (by rfl)))
 obtain ⟨t,e,⟨xs,hx⟩,q⟩:=q1
 subst e
 obtain ⟨u1,rfl,r1'⟩:=r1.one
 cases r1'
 obtain ⟨us,ru,pu,zu⟩:=I1.list hx
 refine call_enumerate_list pu.isList fun g g1 g4 _ kp=>?_
 refine wpAny_pyIter_enum (s:={ s1 with heap:=g }) g1 ?_
 refine ⟨_,_,_,Iel X.K t,H1,rfl,I1.kept (t':=s1.toks) kp,turn_enumL (Nat.ne_of_lt (Nat.lt_succ_self _)),⟨⟨_,g1⟩,g4⟩,fun b hb=>?_,q⟩
 have hb':s1.heap.objs.size<=b:=by
  simp only [List.mem_cons,List.not_mem_nil,or_false] at hb
  rcases hb with rfl | rfl
  ·exact Nat.le_add_right _ _
  ·exact Nat.le_refl _
 have I2:Inv X _ σ H1 _:=I1.kept (t':=s1.toks) kp
 exact I1.fpOk hb' (I1.hok.fresh hb')
end
theorem for_enumL {K:PySem.W.Frag} {a:Addr} {xs:List V} {g:TG} {tb:TS} {D:Ends} {σ:L2.St} {H:Hp} (Pv:Nat->L2.St->Hp->Prop) (h0:Pv 0 σ H) (hl:∀ i σ H,i<=xs.length->Pv i σ H->SqL K H a xs)
  (hs:∀ i x σ H T,xs[i]?=some x->Pv i σ H->H T=none->g (.ref T) σ (upd H T (.tup [.int ((i:Nat):Int),x])) fun σ2 H2=>tb { D with nx:=Pv (i+1),ct:=Pv (i+1),bk:=D.nx } σ2 H2) (hd:∀ σ H,Pv xs.length σ H->D.nx σ H) :
  ∃ W:Nat->Nat->L2.St->Hp->Prop,(∃ m,W 0 m σ H)/\∀ i m σ H,W i m σ H →
   ((Iel K a).stop i H/\D.nx σ H)\/((Iel K a).go i H/\∃ N:L2.St->Hp->Prop,(∀ σ' H',N σ' H'->∃ m',m' < m/\W (i+1) m' σ' H')/\∀ x H',(Iel K a).yld i H x H'->g x σ H' fun σ2 H2=>tb { D with nx:=N,ct:=N,bk:=D.nx } σ2 H2):=by
 refine ⟨fun i m σ H=>m=xs.length - i/\i<=xs.length/\Pv i σ H,⟨xs.length,by simp,Nat.zero_le _,h0⟩,?_⟩
 rintro i m σ H ⟨rfl,hi,p⟩
 have q:=hl i σ H hi p
 rcases Nat.lt_or_ge i xs.length with hlt | hge
 ·refine .inr ⟨⟨xs,xs[i],q,by simp [hlt]⟩,Pv (i+1),fun σ' H' p'=>⟨xs.length - (i+1),by omega,rfl,hlt,p'⟩,?_⟩
  rintro x H' ⟨T,a',rfl,hT,rfl,hx⟩
  exact hs i a' σ H T (hx xs q) p hT
 ·have e:i=xs.length:=by omega
  subst e
  exact .inl ⟨⟨xs,q,Nat.le_refl _⟩,hd σ H p⟩
end L3
namespace Vm
open PySem PySem.Spec PyProof.Rows L2 L3
theorem eqL_refl {xs:List V} (h:xs.all flatV=true):eqL xs xs=true:=by
 induction xs with
 | nil=>rfl
 | cons x r ih=>
  rw [List.all_cons,Bool.and_eq_true] at h
  show (eqV x x && eqL r r)=true
  rw [ih h.2,Bool.and_true]
  cases x with
  | non=>rfl
  | bl b=>cases b <;> rfl
  | int i=>exact decide_eq_true rfl
  | str z=>exact decide_eq_true rfl
  | _=>cases h.1
def colF (es:List V) (e0:V) (S:Nat->Bool) (m:Nat):List V:=(List.range m).map fun r=>if S r=true then es.getD r .non else e0
theorem colF_len (es:List V) (e0:V) (S:Nat->Bool) (m:Nat):(colF es e0 S m).length=m:=by unfold colF;rw [List.length_map,List.length_range]
theorem colF_at {es:List V} {e0:V} {S:Nat->Bool} {m r:Nat} (h:r < m):(colF es e0 S m)[r]?=some (if S r=true then es.getD r .non else e0):=by
 unfold colF
 rw [List.getElem?_map,List.getElem?_range h]
 rfl
theorem colF_none (es:List V) (e0:V) (m:Nat):colF es e0 (fun _=>false) m=List.replicate m e0:=by
 unfold colF
 rw [List.eq_replicate_iff]
 refine ⟨by rw [List.length_map,List.length_range],fun x hx=>?_⟩
 obtain ⟨r,_,rfl⟩:=List.mem_map.mp hx
 rfl
theorem colF_set {es:List V} {e0 x:V} {S:Nat->Bool} {m k:Nat} (hk:k < m) (hx:es.getD k .non=x):(colF es e0 S m).set k x=colF es e0 (fun r=>S r || r == k) m:=by
 apply List.ext_getElem?
 intro r
 by_cases hr:r < m
 ·rw [colF_at hr,List.getElem?_set]
  by_cases c:k=r
  ·subst c
   rw [if_pos rfl,if_pos (by rw [colF_len];exact hk)]
   have:(S k || k == k)=true:=by rw [beq_self_eq_true,Bool.or_true]
   rw [if_pos this,hx]
  ·have:(S r || r == k)=S r:=by rw [beq_eq_false_iff_ne.mpr (Ne.symm c),Bool.or_false]
   rw [if_neg c,colF_at hr,this]
 ·rw [List.getElem?_eq_none (by rw [List.length_set,colF_len];omega),List.getElem?_eq_none (by rw [colF_len];omega)]
theorem entStep_keep {e0 x y:V} {us:List V} (h:y ∈ us):y ∈ entStep e0 us x:=by
 unfold entStep
 split
 ·exact h
 ·split
  ·exact h
  ·exact List.mem_append_left _ h
theorem ent_all {es:List V}:∀ i:Nat,i<=es.length->∀ r,r < i->es.getD r .non=es.getD 0 .non\/es.getD r .non ∈ entTo es i
 | 0,_,r,h=>absurd h (Nat.not_lt_zero _)
 | i+1,hi,r,h=>by
  have e:=List.getElem?_eq_getElem (l:=es) (i:=i) (by omega)
  rw [entTo_step e]
  by_cases c:r=i
  ·subst c
   have eg:es.getD r .non=es[r]:=by rw [List.getD_eq_getElem?_getD,e];rfl
   rw [eg]
   by_cases c0:es[r]=es.getD 0 .non
   ·exact .inl c0
   ·refine .inr ?_
    unfold entStep
    rw [if_neg c0]
    split
    ·assumption
    ·exact List.mem_append_right _ (List.mem_singleton.mpr rfl)
  ·rcases ent_all (es:=es) i (by omega) r (by omega) with h | h
   ·exact .inl h
   ·exact .inr (entStep_keep h)
theorem colF_done {es:List V} {S:Nat->Bool} (h:∀ r,r < es.length->(S r=true ↔ es.getD r .non ∈ entTo es es.length)):colF es (es.getD 0 .non) S es.length=es:=by
 apply List.ext_getElem?
 intro r
 by_cases hr:r < es.length
 ·rw [colF_at hr]
  have eg:es[r]?=some (es.getD r .non):=by rw [List.getD_eq_getElem?_getD,List.getElem?_eq_getElem hr];rfl
  rw [eg]
  by_cases c:S r=true
  ·rw [if_pos c]
  ·rw [if_neg c]
   rcases ent_all (es:=es) es.length (Nat.le_refl _) r hr with h1 | h1
   ·rw [h1]
   ·exact absurd ((h r hr).mpr h1) c
 ·rw [List.getElem?_eq_none (by rw [colF_len];omega),List.getElem?_eq_none (by omega)]
theorem rowsTo_mem {es:List V} {x:V} {n r:Nat}:r ∈ rowsTo es x n ↔ r < n/\es.getD r .non=x:=by
 unfold rowsTo
 rw [List.mem_filter,List.mem_range,decide_eq_true_iff]
theorem const_of {es:List V} (h:rdgsOf es=[]):es=List.replicate es.length (es.getD 0 .non):=by
 have h0:entTo es es.length=[]:=List.map_eq_nil_iff.mp h
 rw [List.eq_replicate_iff]
 refine ⟨rfl,fun x hx=>?_⟩
 obtain ⟨r,hr,rfl⟩:=List.mem_iff_getElem.mp hx
 rcases ent_all (es:=es) es.length (Nat.le_refl _) r hr with h1 | h1
 ·rw [<-h1,List.getD_eq_getElem?_getD,List.getElem?_eq_getElem hr]
  rfl
 ·rw [h0] at h1
  cases h1
theorem notes_sorted (cs:List (List V)) (n:Nat):(notesTo cs n).Pairwise fun p q=>p.1 < q.1:=by
 unfold notesTo
 refine List.Pairwise.filter _ ?_
 rw [List.pairwise_map]
 exact List.pairwise_lt_range
theorem notes_mem {cs:List (List V)} {n:Nat} {p:Nat × List Rdg} (h:p ∈ notesTo cs n):p.1 < n/\p.2=rdgsOf (cs.getD p.1 [])/\p.2 ≠ []:=by
 unfold notesTo at h
 obtain ⟨h1,h2⟩:=List.mem_filter.mp h
 obtain ⟨i,hi,rfl⟩:=List.mem_map.mp h1
 refine ⟨List.mem_range.mp hi,rfl,fun z=>?_⟩
 have h2:(!(rdgsOf (cs.getD i [])).isEmpty)=true:=h2
 rw [show rdgsOf (cs.getD i [])=[] from z] at h2
 cases h2
theorem notes_all {cs:List (List V)} {n i:Nat} (hi:i < n) (h:rdgsOf (cs.getD i []) ≠ []):(i,rdgsOf (cs.getD i [])) ∈ notesTo cs n:=by
 unfold notesTo
 refine List.mem_filter.mpr ⟨List.mem_map.mpr ⟨i,List.mem_range.mpr hi,rfl⟩,?_⟩
 cases e:rdgsOf (cs.getD i []) with
 | nil=>exact absurd e h
 | cons a r=>rfl
end Vm
namespace L3
open PySem PySem.Spec PyProof.Rows L2
open Builtin Builtin.Str
section
variable {X:Cx}
def rSplitB:V->List V->Hp->VK->Prop:=fun x vs H Q=>∃ z y,x=.str z/\vs=[.str y]/\1<=y.length/\z.length<=10000000/\∀ p,H p=none->Q (.ref p) (upd H p (.lst ((Txt.split z y).map V.str)))
theorem mt_splitB:MtR X "str.split" rSplitB:=by
 intro pins s σ H x xs v us Q I rx rv h
 obtain ⟨z,y,rfl,rfl,hy,hz,q⟩:=h
 obtain ⟨t,rfl⟩:=rx
 obtain ⟨u,rfl,ru⟩:=rv.one
 obtain ⟨t',rfl⟩:=ru
 have hs:=szl
 have hy':(y.length == 0)=false:=by
  rw [beq_eq_false_iff_ne];omega
 have hlen:=PyProof.Rows.split_le z y
 have fin:∀ (l:List (Str × Tok)) (k:Nat),l.map (·.1)=Txt.split z y->EP X pins σ Q (.ref s.heap.objs.size) { s with heap:=s.heap.push { cls:=.type "list",data:=.seq (strValues l).toArray },toks:=k }:=fun l k e=>by
  have hv:Vals ((Txt.split z y).map V.str) (strValues l):=by rw [<-e];exact vals_values l
  exact ⟨.ref _,_,I.lnew (t':=k) hv (by rw [List.length_map];omega),rfl,q _ I.fresh⟩
 have hn:(partsBetween z (occurrences z y 0 z.length (z.length+1)) y.length).length<=sizeLine:=by
  have h1:=StrLaws.occ_length_le z y 0 z.length (z.length+1)
  unfold partsBetween
  simp only [List.length_map,List.length_zip,List.length_cons,List.length_append,List.length_singleton]
  omega
 cases h1:(decide (z.length < y.length) || decide (strKind z < strKind y))
 ·cases hf:(occurrences z y 0 z.length (z.length+1)).isEmpty
  ·refine call_meets F.slot_str_split (typeIs_str _ _ _) F.entry_str_split (F.args_str_split_2 _ _) (meets_str_split_sep z y t t' h1 hy' hf (by omega) hn) ?_
   show EP X pins σ Q (.ref s.heap.objs.size) { s with toks:=_,heap:=s.heap.push { cls:=.type "list",data:=.seq (strsFrom s.toks (partsBetween z (occurrences z y 0 z.length (z.length+1)) y.length)).toArray } }
   rw [strsFrom_eq]
   exact fin (numbered s.toks _) _ ((numbered_texts _ _).trans ((if_neg (ne_true_of_eq_false h1)).trans (if_neg (ne_true_of_eq_false hf))).symm)
  ·refine call_meets F.slot_str_split (typeIs_str _ _ _) F.entry_str_split (F.args_str_split_2 _ _) (meets_str_split_not_found z y t t' h1 hy' hf) ?_
   exact fin [(z,t)] s.toks ((if_neg (ne_true_of_eq_false h1)).trans (if_pos hf)).symm
 ·refine call_meets F.slot_str_split (typeIs_str _ _ _) F.entry_str_split (F.args_str_split_2 _ _) (meets_str_split_cannot_occur z y t t' h1) ?_
  exact fin [(z,t)] s.toks (if_pos h1).symm
end
end L3
namespace Vm
open PySem PySem.Spec PyProof.Rows L2 L3
section
open PySem.StrLaws Builtin Builtin.Str
structure Sep (y:Str) (u:List Nat) (c:Nat) (t:List Nat):Prop where
 e:y.cps.toList=u++c :: t
 hu:c ∉ u
 ht:c ∉ t
 kd:Builtin.Str.strKind y=1
theorem Sep.len {y:Str} {u t:List Nat} {c:Nat} (S:Sep y u c t):y.length=u.length+(t.length+1):=by
 rw [<-clen,S.e,List.length_append,List.length_cons]
def joinS (s:List Nat):List (List Nat)->List Nat
 | []=>[]
 | [l]=>l
 | l :: m :: r=>l++(s++joinS s (m :: r))
def cutsS (d:Nat):Nat->List (List Nat)->List Nat
 | _,[]=>[]
 | _,[_]=>[]
 | a,l :: m :: r=>(a+l.length) :: cutsS d (a+l.length+d) (m :: r)
def atS (x y:Str) (i:Nat):Bool:=decide (i+y.length<=x.length) && subAt x y i
theorem atS_get {x y:Str} {u t:List Nat} {c:Nat} (S:Sep y u c t) {i:Nat} (h:atS x y i=true):x.cps.toList[i+u.length]?=some c:=by
 unfold atS at h
 have h:=(Bool.and_eq_true_iff.mp h).2
 rw [subAt_eq,beq_iff_eq] at h
 have h0:((x.cps.toList.drop i).take y.length)[u.length]?=some c:=by rw [h,S.e,List.getElem?_append_right (Nat.le_refl _),Nat.sub_self];rfl
 rw [List.getElem?_take,if_pos (by rw [S.len];omega),List.getElem?_drop] at h0
 exact h0
theorem atS_of {x y:Str} {pre r:List Nat} (h:x.cps.toList=pre++(y.cps.toList++r)):atS x y pre.length=true:=by
 unfold atS
 rw [Bool.and_eq_true_iff,subAt_eq,decide_eq_true_iff,beq_iff_eq]
 constructor
 ·rw [<-clen x,h,List.length_append,List.length_append,clen]
  omega
 ·rw [h,List.drop_left,<-clen y,List.take_left]
theorem join_mark {s u t:List Nat} {c:Nat} (hs:s=u++c :: t) (hu:c ∉ u):∀ (l:List Nat) (r:List (List Nat)),c ∉ l->∀ o,o < l.length+u.length->(joinS s (l :: r))[o]? ≠ some c
 | l,[],hl,o,_,h=>hl (List.mem_of_getElem? h)
 | l,m :: r,hl,o,ho,h=>by
  have ej:joinS s (l :: m :: r)=l++(u++(c :: t++joinS s (m :: r))):=by
   show l++(s++joinS s (m :: r))=_
   rw [hs,List.append_assoc]
  rw [ej] at h
  by_cases h1:o < l.length
  ·rw [List.getElem?_append_left h1] at h
   exact hl (List.mem_of_getElem? h)
  ·rw [List.getElem?_append_right (by omega),List.getElem?_append_left (by omega)] at h
   exact hu (List.mem_of_getElem? h)
theorem occS {x y:Str} (lim:Nat) (hx:∀ i,atS x y i=true->∀ j,i < j->j < i+y.length->atS x y j=false):∀ (n a:Nat) (arr:Array Nat) (free:Nat),(∀ j,a<=j->j < free->atS x y j=false)->arr.size+n<=lim →
  (forIn (List.range' a n) (arr,free) (occBody x y x.length lim)).run.fst.toList=arr.toList++(List.range' a n).filter (atS x y)
 | 0,a,arr,free,_,_=>by simp
 | n+1,a,arr,free,hf,hl=>by
  rw [List.range'_succ,List.forIn_cons]
  unfold occBody
  cases ha:atS x y a with
  | true=>
   have hf':free<=a:=by
    rcases Nat.lt_or_ge a free with z | z
    ·have:=hf a (Nat.le_refl _) z
     rw [ha] at this
     cases this
    ·exact z
   have h2:=Bool.and_eq_true_iff.mp ha
   have h3:=of_decide_eq_true h2.1
   rw [if_pos ⟨⟨⟨by show arr.size < lim;omega,hf'⟩,h3⟩,h2.2⟩,List.filter_cons_of_pos ha]
   have ih:=occS lim hx n (a+1) (arr.push a) (a+y.length) (fun j h1 h2=>hx a ha j (by omega) h2) (by rw [Array.size_push];omega)
   unfold occBody at ih
   refine Eq.trans ih ?_
   rw [Array.toList_push,List.append_assoc]
   rfl
  | false=>
   rw [if_neg ?_,List.filter_cons_of_neg (by rw [ha];exact Bool.false_ne_true)]
   ·have ih:=occS lim hx n (a+1) arr free (fun j h1 h2=>hf j (by omega) h2) (by omega)
    unfold occBody at ih
    exact ih
   ·rintro ⟨⟨_,h1⟩,h2⟩
    have:atS x y a=true:=Bool.and_eq_true_iff.mpr ⟨decide_eq_true h1,h2⟩
    rw [ha] at this
    exact Bool.false_ne_true this
theorem cutsS_filter {x y:Str} {u t:List Nat} {c:Nat} (S:Sep y u c t):∀ (ls:List (List Nat)) (pre:List Nat),ls ≠ []->(∀ l ∈ ls,c ∉ l)->x.cps.toList=pre++joinS y.cps.toList ls →
  (List.range' pre.length (x.length+1 - pre.length)).filter (atS x y)=cutsS y.length pre.length ls/\∀ i,pre.length<=i->atS x y i=true->∀ j,i < j->j < i+y.length->atS x y j=false
 | [],_,h,_,_=>absurd rfl h
 | [l],pre,_,hc,hx=>by
  have no:∀ i,pre.length<=i->atS x y i=true->False:=fun i hi h=>by
   have h1:=atS_get S h
   rw [hx,List.getElem?_append_right (by omega)] at h1
   exact hc l List.mem_cons_self (List.mem_of_getElem? h1)
  refine ⟨?_,fun i hi h=>absurd h (fun h=>no i hi h)⟩
  show _=[]
  rw [List.filter_eq_nil_iff]
  intro i hi h
  obtain ⟨k,hk,rfl⟩:=List.mem_range'.mp hi
  exact no _ (by omega) h
 | l :: m :: r,pre,_,hc,hx=>by
  have hlen:x.length=(pre++joinS y.cps.toList (l :: m :: r)).length:=by rw [<-hx,clen]
  have ej:joinS y.cps.toList (l :: m :: r)=l++(y.cps.toList++joinS y.cps.toList (m :: r)):=rfl
  have hL:=S.len
  rw [ej,List.length_append,List.length_append,List.length_append,clen] at hlen
  have el:(pre++l++y.cps.toList).length=pre.length+l.length+y.length:=by rw [List.length_append,List.length_append,clen]
  have er:x.length+1 - pre.length=l.length+(y.length+(x.length+1 - (pre++l++y.cps.toList).length)):=by
   rw [el]
   omega
  obtain ⟨ih,ihx⟩:=cutsS_filter S (m :: r) (pre++l++y.cps.toList) (fun e=>nomatch e) (fun k hk=>hc k (List.mem_cons_of_mem _ hk)) (by rw [hx,ej];simp only [List.append_assoc])
  have no1:∀ o,o < l.length->atS x y (pre.length+o)=false:=fun o ho=>by
   cases h:atS x y (pre.length+o) with
   | false=>rfl
   | true=>
    have h1:=atS_get S h
    rw [hx,List.getElem?_append_right (by omega)] at h1
    exact absurd h1 (join_mark S.e S.hu l (m :: r) (hc l List.mem_cons_self) _ (by omega))
  have t1:atS x y (pre.length+l.length)=true:=by
   have:=atS_of (x:=x) (y:=y) (pre:=pre++l) (r:=joinS y.cps.toList (m :: r)) (by rw [hx,ej,List.append_assoc])
   rw [List.length_append] at this
   exact this
  have no2:∀ j,pre.length+l.length < j->j < pre.length+l.length+y.length->atS x y j=false:=fun j h1 h2=>by
   cases h:atS x y j with
   | false=>rfl
   | true=>
    exfalso
    have h3:=atS_get S h
    have e3:x.cps.toList=(pre++l++(u++[c]))++(t++joinS y.cps.toList (m :: r)):=by
     rw [hx,ej,S.e]
     simp only [List.append_assoc,List.cons_append,List.nil_append]
    have l3:(pre++l++(u++[c])).length=pre.length+l.length+u.length+1:=by simp only [List.length_append,List.length_cons,List.length_nil];omega
    rw [e3,List.getElem?_append_right (by rw [l3];omega),l3] at h3
    by_cases h4:j+u.length - (pre.length+l.length+u.length+1) < t.length
    ·rw [List.getElem?_append_left h4] at h3
     exact S.ht (List.mem_of_getElem? h3)
    ·rw [List.getElem?_append_right (by omega)] at h3
     exact join_mark S.e S.hu m r (hc m (List.mem_cons_of_mem _ List.mem_cons_self)) _ (by omega) h3
  refine ⟨?_,fun i hi h j h1 h2=>?_⟩
  ·rw [er,<-List.range'_append_1,List.filter_append,<-List.range'_append_1,List.filter_append,<-el,ih,el]
   have f1:(List.range' pre.length l.length).filter (atS x y)=[]:=by
    rw [List.filter_eq_nil_iff]
    intro i hi h
    obtain ⟨k,hk,rfl⟩:=List.mem_range'.mp hi
    rw [Nat.one_mul,no1 k hk] at h
    cases h
   have f2:(List.range' (pre.length+l.length) y.length).filter (atS x y)=[pre.length+l.length]:=by
    rw [show y.length=(y.length - 1)+1 from by omega,List.range'_succ,List.filter_cons_of_pos t1]
    congr 1
    rw [List.filter_eq_nil_iff]
    intro i hi h
    obtain ⟨k,hk,rfl⟩:=List.mem_range'.mp hi
    rw [no2 _ (by omega) (by omega)] at h
    cases h
   rw [f1,f2]
   rfl
  ·by_cases h3:i < pre.length+l.length
   ·have:=no1 (i - pre.length) (by omega)
    rw [show pre.length+(i - pre.length)=i from by omega,h] at this
    cases this
   ·by_cases h4:i < pre.length+l.length+y.length
    ·have ei:i=pre.length+l.length:=by
      rcases Nat.lt_or_ge (pre.length+l.length) i with z | z
      ·have:=no2 i z h4
       rw [h] at this
       cases this
      ·omega
     subst ei
     exact no2 j h1 h2
    ·exact ihx i (by rw [el];omega) h j h1 h2
theorem parts_S (x:Str) (y:Str):∀ (ls:List (List Nat)) (pre:List Nat),ls ≠ []->x.cps.toList=pre++joinS y.cps.toList ls->partsFrom x y.length pre.length (cutsS y.length pre.length ls)=ls.map mkS
 | [],_,h,_=>absurd rfl h
 | [l],pre,_,hx=>by
  show [strSub x pre.length x.length]=[mkS l]
  congr 1
  apply Str.ext'
  apply Array.toList_inj.mp
  rw [strSub_toList,mkS_list,hx,List.drop_left]
  exact List.take_of_length_le (by
   have hlen:x.length=(pre++l).length:=by rw [<-clen x,hx];rfl
   rw [hlen,List.length_append]
   show l.length<=_
   omega)
 | l :: m :: r,pre,_,hx=>by
  have ej:joinS y.cps.toList (l :: m :: r)=l++(y.cps.toList++joinS y.cps.toList (m :: r)):=rfl
  have ih:=parts_S x y (m :: r) (pre++l++y.cps.toList) (fun e=>nomatch e) (by rw [hx,ej];simp only [List.append_assoc])
  have el:(pre++l++y.cps.toList).length=pre.length+l.length+y.length:=by rw [List.length_append,List.length_append,clen]
  rw [el] at ih
  show strSub x pre.length (pre.length+l.length) :: partsFrom x y.length (pre.length+l.length+y.length) (cutsS y.length (pre.length+l.length+y.length) (m :: r))=_
  rw [ih,List.map_cons]
  congr 1
  apply Str.ext'
  apply Array.toList_inj.mp
  rw [strSub_toList,mkS_list,hx,List.drop_left,ej,Nat.add_sub_cancel_left,List.take_left]
theorem split_S {x y:Str} {u t:List Nat} {c:Nat} (S:Sep y u c t) {ls:List (List Nat)} (hn:ls ≠ []) (hc:∀ l ∈ ls,c ∉ l) (hx:x.cps.toList=joinS y.cps.toList ls):Txt.split x y=ls.map mkS:=by
 obtain ⟨f,g⟩:=cutsS_filter S ls [] hn hc hx
 have ho:occurrences x y 0 x.length (x.length+1)=cutsS y.length 0 ls:=by
  rw [occ_eq]
  have:=occS (x:=x) (y:=y) (x.length+1) (fun i h=>g i (Nat.zero_le _) h) (x.length+1) 0 #[] 0 (fun j _ h=>absurd h (Nat.not_lt_zero _)) (by simp)
  rw [show x.length+1 - 0=x.length+1 from rfl,this]
  rw [show (#[]:Array Nat).toList=[] from rfl,List.nil_append]
  exact f
 have hp:=parts_S x y ls [] hn hx
 have one:∀ l,ls=[l]->[x]=ls.map mkS:=fun l e=>by
  rw [e,List.map_cons,List.map_nil]
  congr 1
  apply Str.ext'
  apply Array.toList_inj.mp
  rw [mkS_list,hx,e];rfl
 unfold Txt.split
 rw [S.kd]
 have h2:decide (Builtin.Str.strKind x < 1)=false:=decide_eq_false (by have:=kind_pos x;omega)
 rw [h2,Bool.or_false]
 cases ls with
 | nil=>exact absurd rfl hn
 | cons l r=>
  cases r with
  | nil=>
   by_cases h1:decide (x.length < y.length)=true
   ·rw [if_pos h1];exact one l rfl
   ·rw [if_neg h1,ho,if_pos (show (cutsS y.length 0 [l]).isEmpty=true from rfl)];exact one l rfl
  | cons m r=>
   have hlen:x.length=(joinS y.cps.toList (l :: m :: r)).length:=by rw [<-hx,clen]
   have ej:joinS y.cps.toList (l :: m :: r)=l++(y.cps.toList++joinS y.cps.toList (m :: r)):=rfl
   rw [ej,List.length_append,List.length_append,clen] at hlen
   rw [if_neg (fun h=>by have:=of_decide_eq_true h;omega),ho,if_neg (by intro h;cases h),partsBetween_eq]
   exact hp
theorem sjoin_S (y:Str):∀ ws:List Str,(Str.join y ws).cps.toList=joinS y.cps.toList (ws.map fun z=>z.cps.toList)
 | []=>rfl
 | [z]=>rfl
 | z :: w :: r=>by
  have ih:=sjoin_S y (w :: r)
  show (z++y++Str.join y (w :: r)).cps.toList=z.cps.toList++(y.cps.toList++joinS y.cps.toList ((w :: r).map fun z=>z.cps.toList))
  rw [<-ih,app_list,app_list,List.append_assoc]
theorem split_join_S {y:Str} {u t:List Nat} {c:Nat} (S:Sep y u c t) {ws:List Str} (hn:ws ≠ []) (hc:∀ z ∈ ws,c ∉ z.cps.toList):Txt.split (Str.join y ws) y=ws:=by
 rw [split_S S (ls:=ws.map fun z=>z.cps.toList) (fun e=>hn (List.map_eq_nil_iff.mp e)) (fun l hl=>?_) (sjoin_S y ws),List.map_map]
 ·have:(mkS ∘ fun z:Str=>z.cps.toList)=_root_.id:=by funext z;exact str_mk z
  rw [this,List.map_id]
 ·obtain ⟨z,hz,rfl⟩:=List.mem_map.mp hl
  exact hc z hz
theorem split_pair {y:Str} {u t:List Nat} {c:Nat} (S:Sep y u c t) {a b:Str} (ha:c ∉ a.cps.toList) (hb:c ∉ b.cps.toList):Txt.split (a++y++b) y=[a,b]:=by
 refine split_join_S S (ws:=[a,b]) (fun e=>nomatch e) fun z hz=>?_
 rcases List.mem_cons.mp hz with rfl | hz
 ·exact ha
 ·rw [List.mem_singleton.mp hz];exact hb
theorem sep_bar:Sep (Str.ofString " | ") [32] 124 [32]:=⟨by decide +kernel,by decide,by decide,by decide +kernel⟩
theorem sep_nl:Sep (Str.ofString "\n") [] 10 []:=⟨by decide +kernel,by decide,by decide,by decide +kernel⟩
theorem sep_colon:Sep (Str.ofString ": ") [] 58 [32]:=⟨by decide +kernel,by decide,by decide,by decide +kernel⟩
theorem sep_semi:Sep (Str.ofString "; ") [] 59 [32]:=⟨by decide +kernel,by decide,by decide,by decide +kernel⟩
theorem sep_sp:Sep (Str.ofString " ") [] 32 []:=⟨by decide +kernel,by decide,by decide,by decide +kernel⟩
theorem sep_comma:Sep (Str.ofString ",") [] 44 []:=⟨by decide +kernel,by decide,by decide,by decide +kernel⟩
theorem mem_join {y:Str} {c:Nat}:∀ {ws:List Str},c ∈ (Str.join y ws).cps.toList->c ∈ y.cps.toList\/∃ z ∈ ws,c ∈ z.cps.toList
 | [],h=>nomatch h
 | [z],h=>.inr ⟨z,List.mem_cons_self,h⟩
 | z :: w :: r,h=>by
  have h:c ∈ (z++y++Str.join y (w :: r)).cps.toList:=h
  rw [app_list,app_list,List.mem_append,List.mem_append] at h
  rcases h with (h | h) | h
  ·exact .inr ⟨z,List.mem_cons_self,h⟩
  ·exact .inl h
  ·rcases mem_join h with h | ⟨v,hv,h⟩
   ·exact .inl h
   ·exact .inr ⟨v,List.mem_cons_of_mem _ hv,h⟩
theorem ent_signs {v:V} (h:Ent v) {c:Nat} (hc:c ∈ (entS v).cps.toList):c=45\/(97<=c/\c<=122):=by
 rcases h with rfl | ⟨z,hz,rfl⟩
 ·have e:(entS .non).cps.toList=[45]:=by decide +kernel
  rw [e] at hc
  exact .inl (List.mem_singleton.mp hc)
 ·have:=hz.al c hc
  unfold Al at this
  exact .inr (by omega)
theorem rows_signs {ns:List Nat} {c:Nat} (hc:c ∈ (Str.join (Str.ofString ",") (ns.map fun n=>numS ((n:Nat):Int))).cps.toList):c=44\/(48<=c/\c<=57):=by
 rcases mem_join hc with h | ⟨z,hz,h⟩
 ·rw [sep_comma.e] at h
  exact .inl (List.mem_singleton.mp h)
 ·obtain ⟨n,_,rfl⟩:=List.mem_map.mp hz
  have:=numS_digits n c h
  exact .inr (by omega)
theorem rdg_signs {x:Rdg} (h:RdgOk x) {c:Nat} (hc:c ∈ (rdgS x).cps.toList):c=32\/c=44\/c=45\/(48<=c/\c<=57)\/(97<=c/\c<=122):=by
 unfold rdgS at hc
 rw [app_list,app_list,List.mem_append,List.mem_append,sep_sp.e] at hc
 rcases hc with (h1 | h1) | h1
 ·have:=ent_signs h.1 h1
  omega
 ·have:c=32:=List.mem_singleton.mp h1
  omega
 ·have:=rows_signs h1
  omega
theorem rdgs_signs {xs:List (Addr × Rdg)} (h:∀ y ∈ xs,RdgOk y.2) {c:Nat} (hc:c ∈ (Str.join (Str.ofString "; ") (xs.map fun y=>rdgS y.2)).cps.toList):c=59\/c=32\/c=44\/c=45\/(48<=c/\c<=57)\/(97<=c/\c<=122):=by
 rcases mem_join hc with h1 | ⟨z,hz,h1⟩
 ·rw [sep_semi.e] at h1
  rcases List.mem_cons.mp h1 with h1 | h1
  ·exact .inl h1
  ·exact .inr (.inl (List.mem_singleton.mp h1))
 ·obtain ⟨y,hy,rfl⟩:=List.mem_map.mp hz
  exact .inr (rdg_signs (h y hy) h1)
theorem note_signs {x:Note} (h:∀ y ∈ x.2,RdgOk y.2) {c:Nat} (hc:c ∈ (noteS x).cps.toList):c ≠ 10:=by
 unfold noteS at hc
 rw [app_list,app_list,List.mem_append,List.mem_append,sep_colon.e] at hc
 rcases hc with (h1 | h1) | h1
 ·have:=numS_digits x.1 c h1
  omega
 ·rcases List.mem_cons.mp h1 with h1 | h1
  ·omega
  ·have:=List.mem_singleton.mp h1;omega
 ·have:=rdgs_signs h h1
  omega
theorem head_signs {es:List V} (h:∀ e ∈ es,Ent e) {c:Nat} (hc:c ∈ (headS es).cps.toList):c ≠ 10:=by
 unfold headS at hc
 rcases mem_join hc with h1 | ⟨z,hz,h1⟩
 ·rw [sep_bar.e] at h1
  intro e
  rw [e] at h1
  revert h1
  decide
 ·obtain ⟨e,he,rfl⟩:=List.mem_map.mp hz
  have:=ent_signs (h e he) h1
  omega
theorem cut_app {es:List V} {ns:List (Addr × Note)} (hE:∀ e ∈ es,Ent e) (hN:∀ y ∈ ns,∀ z ∈ y.2.2,RdgOk z.2):Txt.split (appS es ns) (Str.ofString "\n")=headS es :: ns.map fun y=>noteS y.2:=by
 unfold appS
 refine split_join_S sep_nl (fun e=>nomatch e) fun z hz h=>?_
 rcases List.mem_cons.mp hz with rfl | hz
 ·exact head_signs hE h rfl
 ·obtain ⟨y,hy,rfl⟩:=List.mem_map.mp hz
  exact note_signs (hN y hy) h rfl
theorem cut_head {es:List V} (hE:∀ e ∈ es,Ent e) (hn:es ≠ []):Txt.split (headS es) (Str.ofString " | ")=es.map entS:=by
 unfold headS
 refine split_join_S sep_bar (fun e=>hn (List.map_eq_nil_iff.mp e)) fun z hz h=>?_
 obtain ⟨e,he,rfl⟩:=List.mem_map.mp hz
 have:=ent_signs (hE e he) h
 omega
theorem cut_note {x:Note} (h:∀ y ∈ x.2,RdgOk y.2):Txt.split (noteS x) (Str.ofString ": ")=[numS ((x.1:Nat):Int),Str.join (Str.ofString "; ") (x.2.map fun y=>rdgS y.2)]:=by
 refine split_pair sep_colon (fun hc=>?_) fun hc=>?_
 ·have:=numS_digits x.1 _ hc
  omega
 ·have:=rdgs_signs h hc
  omega
theorem cut_rdgs {xs:List (Addr × Rdg)} (h:∀ y ∈ xs,RdgOk y.2) (hn:xs ≠ []):Txt.split (Str.join (Str.ofString "; ") (xs.map fun y=>rdgS y.2)) (Str.ofString "; ")=xs.map fun y=>rdgS y.2:=by
 refine split_join_S sep_semi (fun e=>hn (List.map_eq_nil_iff.mp e)) fun z hz hc=>?_
 obtain ⟨y,hy,rfl⟩:=List.mem_map.mp hz
 have:=rdg_signs (h y hy) hc
 omega
theorem cut_rdg {x:Rdg} (h:RdgOk x):Txt.split (rdgS x) (Str.ofString " ")=[entS x.1,Str.join (Str.ofString ",") (x.2.map fun n=>numS ((n:Nat):Int))]:=by
 refine split_pair sep_sp (fun hc=>?_) fun hc=>?_
 ·have:=ent_signs h.1 hc
  omega
 ·have:=rows_signs hc
  omega
theorem cut_rows {ns:List Nat} (hn:ns ≠ []):Txt.split (Str.join (Str.ofString ",") (ns.map fun n=>numS ((n:Nat):Int))) (Str.ofString ",")=ns.map fun n=>numS ((n:Nat):Int):=by
 refine split_join_S sep_comma (fun e=>hn (List.map_eq_nil_iff.mp e)) fun z hz hc=>?_
 obtain ⟨n,_,rfl⟩:=List.mem_map.mp hz
 have:=numS_digits n _ hc
 omega
theorem head_nil {es:List V} (hE:∀ e ∈ es,Ent e):headS es=Str.ofString "" ↔ es=[]:=by
 constructor
 ·intro h
  cases es with
  | nil=>rfl
  | cons e r=>
   exfalso
   have h1:=cut_head hE (fun z=>nomatch z)
   have h3:=congrArg (fun z:Str=>z.cps.toList) h
   have e0:(Str.ofString "").cps.toList=[]:=by decide +kernel
   have h3:(headS (e :: r)).cps.toList=[]:=h3.trans e0
   have h4:0 < (entS e).length:=by
    rcases hE e List.mem_cons_self with rfl | ⟨z,hz,rfl⟩
    ·decide +kernel
    ·exact hz.lo
   have h5:∃ c,c ∈ (entS e).cps.toList:=by
    rw [<-clen] at h4
    exact ⟨_,List.getElem_mem h4⟩
   obtain ⟨c,hc⟩:=h5
   have h6:c ∈ (headS (e :: r)).cps.toList:=by
    unfold headS
    rw [sjoin_S,List.map_cons,List.map_cons]
    cases r with
    | nil=>exact hc
    | cons f r=>exact List.mem_append_left _ hc
   rw [show (headS (e :: r)).cps.toList=[] from h3] at h6
   cases h6
 ·rintro rfl
  rfl
end
end Vm
namespace K63
open PySem PySem.Spec PyProof.Rows L2 L3 Vm
section
variable {P:Program} {w:World} {K:PySem.W.Frag} {mg:Str->Option Value} {base:Heap}
structure Dfn (K:PySem.W.Frag) (mg:Str->Option Value) (x:Str) (st:Stmt) (f:Addr) (fd:FuncData) (ps:List Str):Prop where
 fn:Fun K x x st f fd
 at_:mg x=some (.ref f)
 bn:Binds K fd ps []
theorem kit_same (v:Value):PySem.W.kitOne K v v=some true:=by
 unfold PySem.W.kitOne
 rw [if_pos (beq_self_eq_true _)]
def cellD (ns:List Int) (k:Int):Int:=(ns[k.toNat]?).getD 0
def spCell (K:PySem.W.Frag):Sp:=fun vs H Q _=>∃ (a:Addr) (ns:List Int) (k:Int),vs=[.ref a,.int k]/\SqL K H a (ns.map V.int)/\0<=k/\Q (.int (cellD ns k)) H
theorem scCell:FnScope ["script","k"] ["script","k"] (defScope sCell):=⟨rfl,rfl,rfl,by decide +kernel,rfl,by decide +kernel,by decide +kernel⟩
theorem ok_cell {f:Addr} {fd:FuncData} (F:Fun K "_law_cell_at" "_law_cell_at" sCell f fd) (mlen:mg "len" = none):FnOk P w K mg base CX0 1 f fd ["script","k"] (spCell K):=by
 refine Fun.okR F scCell (fun vs H Q E h=>?_) (fun cdv A outer s H vs Q Q2 E hr h hq=>?_)
 ·obtain ⟨a,ns,k,rfl,_⟩:=h
  rfl
 ·obtain ⟨a,ns,k,rfl,hS,h0,q⟩:=h
  refine ⟨_,pss_cons (ps_if (pt_cmpR op_lt (pv 1) (pe_callB call_len_seq (by rfl) mlen PySem.boot_len (pa_cons (pv 0) pa_nil)) (nomark _)) (pss_one (ps_ret (pe_ix ix_list (pv 0) (pv 1) (fun _ _=>rfl)))) pss_nil)
   (pss_one (ps_ret pe_int)),?_⟩
  refine ⟨_,rfl,_,rfl,a,_,rfl,.inl hS,_,_,rfl,rfl,_,rfl,?_⟩
  obtain ⟨j,hj⟩:∃ j:Nat,k=(j:Int):=⟨k.toNat,by omega⟩
  subst hj
  refine ite2 (fun h=>?_) (fun h=>?_)
  ·have hl:=of_decide_eq_true h
   rw [List.length_map] at hl
   have hj':j < ns.length:=by omega
   have e:cellD ns (j:Int)=ns[j]:=by unfold cellD;rw [Int.toNat_natCast,List.getElem?_eq_getElem hj'];rfl
   rw [e] at q
   exact ⟨_,rfl,_,rfl,a,_,_,_,rfl,rfl,hS,atI_nat (by rw [List.getElem?_map,List.getElem?_eq_getElem hj'];rfl),hq _ _ (Rst.same (Same.refl H) q)⟩
  ·have hl:¬ ((j:Int) < ((ns.map V.int).length:Int)):=fun c=>h (decide_eq_true c)
   rw [List.length_map] at hl
   have e:cellD ns (j:Int)=0:=by unfold cellD;rw [Int.toNat_natCast,List.getElem?_eq_none (by omega)];rfl
   rw [e] at q
   exact hq _ _ (Rst.same (Same.refl H) q)
def spSkF (K:PySem.W.Frag):Sp:=fun vs H Q _=>∃ (p:Addr) (es:List Str) (d m:Nat),vs=[.ref p,.int (d:Nat),.int (m:Nat)]/\SqT K H p (es.map V.str)/\1<=m/\Q (.bl (skipB es d m)) H
theorem scSkF:FnScope ["elder","done","many"] ["elder","done","many"] (defScope sSkF):=⟨rfl,rfl,rfl,by decide +kernel,rfl,by decide +kernel,by decide +kernel⟩
theorem ok_skf {f:Addr} {fd:FuncData} (F:Fun K "skip_fits" "skip_fits" sSkF f fd) (mlen:mg "len" = none):FnOk P w K mg base CX0 1 f fd ["elder","done","many"] (spSkF K):=by
 refine Fun.okR F scSkF (fun vs H Q E h=>?_) (fun cdv A outer s H vs Q Q2 E hr h hq=>?_)
 ·obtain ⟨p,es,d,m,rfl,_⟩:=h
  rfl
 ·obtain ⟨p,es,d,m,rfl,hp,hm,q⟩:=h
  refine ⟨_,pss_cons (ps_if (pw_or (pt_cmpR op_lt (pv 1) pe_int (nomark _)) (pw_or1 (pt_cmpR op_gt (pe_op op_add (pv 1) (pv 2)) (pe_callB call_len_seq (by rfl) mlen PySem.boot_len (pa_cons (pv 0) pa_nil)) (nomark _)))).pt (pss_one (ps_ret pe_bl)) pss_nil)
   (pss_one (ps_ret (pe_cmpR op_eq (pe_ix ix_tup (pv 0) (pe_op op_sub (pe_op op_add (pv 1) (pv 2)) pe_int) (fun _ _=>rfl)) (pe_ix ix_tup (pv 0) (pe_op op_sub (pv 1) pe_int) (fun _ _=>rfl)) (nomark _)))),?_⟩
  have go:∀ b,skipB es d m=b->Q2 (.bl b) H:=fun b e=>hq _ _ (Rst.same (Same.refl H) (by rw [<-e];exact q))
  have hlen:(es.map V.str).length=es.length:=List.length_map ..
  refine ⟨_,rfl,_,_,rfl,rfl,_,rfl,?_⟩
  refine ite2 (fun h=>iteT (go _ ?_)) (fun h=>?_)
  ·have:=of_decide_eq_true h
   unfold skipB
   rw [decide_eq_false (by omega),Bool.false_and]
  have h1:¬ ((d:Int) < 1):=fun c=>h (decide_eq_true c)
  refine ⟨_,rfl,_,rfl,_,_,rfl,rfl,_,rfl,p,_,rfl,.inr hp,_,_,rfl,rfl,_,rfl,?_⟩
  rw [hlen]
  refine ite2 (fun h2=>go _ ?_) (fun h2=>?_)
  ·have:=of_decide_eq_true h2
   unfold skipB
   rw [decide_eq_false (by omega),Bool.false_and]
  have h3:¬ ((es.length:Int) < (d:Int)+(m:Int)):=fun c=>h2 (decide_eq_true c)
  have e1:(d:Int)+(m:Int) - 1=((d+m - 1:Nat):Int):=by omega
  have e2:(d:Int) - 1=((d - 1:Nat):Int):=by omega
  refine ⟨_,rfl,_,rfl,_,rfl,_,_,rfl,rfl,_,_,rfl,rfl,p,_,_,_,rfl,rfl,hp,(by rw [e1];exact at_w (by omega)),_,rfl,_,rfl,_,_,rfl,rfl,p,_,_,_,rfl,rfl,hp,(by rw [e2];exact at_w (by omega)),rfl,go _ ?_⟩
  unfold skipB
  rw [decide_eq_true (by omega),Bool.true_and,str_dec,gt_of (show d - 1 < es.length by omega),some_dec (by omega)]
def spFits (K:PySem.W.Frag):Sp:=fun vs H Q _=>∃ (p t:Addr) (es:List Str) (d:Nat) (last:Option Str) (st:Sk),vs=[.ref p,.int (d:Nat),optS last,.ref t]/\SqT K H p (es.map V.str)/\SqT K H t (stepV st)/\okS st/\Q (.bl (fitsB es d last st)) H
theorem scFits:FnScope ["elder","done","last","step","kind"] ["elder","done","last","step"] (defScope sFits):=⟨rfl,rfl,rfl,by decide +kernel,rfl,by decide +kernel,by decide +kernel⟩
theorem ok_fits {f g:Addr} {fd gd:FuncData} (F:Fun K "step_fits" "step_fits" sFits f fd) (D:Dfn K mg "skip_fits" sSkF g gd ["elder","done","many"]) (mlen:mg "len" = none):FnOk P w K mg base CX0 2 f fd ["elder","done","last","step"] (spFits K):=by
 have G:FnOk P w K mg base CX0 1 g gd ["elder","done","many"] (spSkF K):=ok_skf D.fn mlen
 refine Fun.okR F scFits (fun vs H Q E h=>?_) (fun cdv A outer s H vs Q Q2 E hr h hq=>?_)
 ·obtain ⟨p,t,es,d,last,st,rfl,_⟩:=h
  rfl
 ·obtain ⟨p,t,es,d,last,st,rfl,hp,ht,hok,q⟩:=h
  refine ⟨_,pss_cons (ps_set (i:=4) scFits.nd rfl (Or.inl rfl) (pe_ix ix_tup (pv 3) pe_int (fun _ _=>rfl)))
   (pss_cons (ps_if (pt_cmpR op_eq (pv 4) pe_str (nomark _)) (pss_one (ps_ret pe_bl)) pss_nil)
   (pss_cons (ps_if (pt_cmpR op_eq (pv 4) pe_str (nomark _)) (pss_one (ps_ret (pe_cmpR op_notN (pv 2) pe_non (nomark _)))) pss_nil)
   (pss_cons (ps_if (pt_cmpR op_eq (pv 4) pe_str (nomark _)) (pss_one (ps_ret (pe_and (pe_cmpR op_lt (pe_op op_add (pv 1) pe_int) (pe_callB call_len_seq (by rfl) mlen PySem.boot_len (pa_cons (pv 0) pa_nil)) (nomark _)) (pe_one (pe_cmpR op_ne (pe_ix ix_tup (pv 0) (pv 1) (fun _ _=>rfl)) (pe_ix ix_tup (pv 0) (pe_op op_add (pv 1) pe_int) (fun _ _=>rfl)) (nomark _)))))) pss_nil)
   (pss_cons (ps_if (pt_cmpR op_eq (pv 4) pe_str (nomark _)) (pss_one (ps_ret (pe_call G hr (by rfl) D.at_ D.fn.kp D.bn .nil pass0 (pa_cons (pv 0) (pa_cons (pv 1) (pa_cons (pe_ix ix_tup (pv 3) pe_int (fun _ _=>rfl)) pa_nil)))))) pss_nil)
   (pss_cons (ps_if (pt_cmpR op_eq (pv 4) pe_str (nomark _)) (pss_one (ps_ret (pe_and (pe_cmpR op_lt (pv 1) (pe_callB call_len_seq (by rfl) mlen PySem.boot_len (pa_cons (pv 0) pa_nil)) (nomark _)) (pe_one (pe_cmpR op_ne (pe_ix ix_tup (pv 0) (pv 1) (fun _ _=>rfl)) (pe_ix ix_tup (pv 3) pe_int (fun _ _=>rfl)) (nomark _)))))) pss_nil)
   (pss_one (ps_ret (pe_cmpR op_lt (pv 1) (pe_callB call_len_seq (by rfl) mlen PySem.boot_len (pa_cons (pv 0) pa_nil)) (nomark _))))))))),?_⟩
  have go:∀ b,fitsB es d last st=b->Q2 (.bl b) H:=fun b e=>hq _ _ (Rst.same (Same.refl H) (by rw [<-e];exact q))
  have hlen:(es.map V.str).length=es.length:=List.length_map ..
  have dl:decide (((d:Nat):Int) < ((es.map V.str).length:Int))=decide (d < es.length):=by rw [hlen];exact decide_eq_decide.mpr (by omega)
  have dl1:decide (((d:Nat):Int)+1 < ((es.map V.str).length:Int))=decide (d+1 < es.length):=by rw [hlen];exact decide_eq_decide.mpr (by omega)
  cases st with
  | add z=>
   refine ⟨_,rfl,t,_,_,_,rfl,rfl,ht,rfl,?_⟩
   exact ⟨_,rfl,rfl,_,rfl,iteY rfl (go _ rfl)⟩
  | twice=>
   refine ⟨_,rfl,t,_,_,_,rfl,rfl,ht,rfl,?_⟩
   refine ⟨_,rfl,rfl,_,rfl,iteK (by decide +kernel) ?_⟩
   refine ⟨_,rfl,rfl,_,rfl,iteY rfl ⟨_,rfl,rfl,go _ ?_⟩⟩
   cases last with
   | none=>rfl
   | some l=>rfl
  | swap=>
   refine ⟨_,rfl,t,_,_,_,rfl,rfl,ht,rfl,?_⟩
   refine ⟨_,rfl,rfl,_,rfl,iteK (by decide +kernel) ?_⟩
   refine ⟨_,rfl,rfl,_,rfl,iteK (by decide +kernel) ?_⟩
   refine ⟨_,rfl,rfl,_,rfl,iteY rfl ?_⟩
   refine ⟨_,rfl,_,_,rfl,rfl,_,rfl,p,_,rfl,.inr hp,_,_,rfl,rfl,_,rfl,?_⟩
   rw [dl1]
   refine ite2 (fun h=>?_) (fun h=>?_)
   ·have hd:=of_decide_eq_true h
    have e1:((d:Nat):Int)+1=((d+1:Nat):Int):=by omega
    refine ⟨_,rfl,_,rfl,p,_,_,_,rfl,rfl,hp,at_w (by omega),_,rfl,_,rfl,_,_,rfl,rfl,p,_,_,_,rfl,rfl,hp,(by rw [e1];exact at_w hd),rfl,go _ ?_⟩
    show (decide (d+1 < es.length) && !decide (es[d]?=es[d+1]?))=_
    rw [h,Bool.true_and,gt_of hd,some_dec (by omega),str_dec]
   ·refine go _ ?_
    show (decide (d+1 < es.length) && !decide (es[d]?=es[d+1]?))=_
    rw [decide_eq_false (fun c=>h (decide_eq_true c)),Bool.false_and]
  | skip m=>
   refine ⟨_,rfl,t,_,_,_,rfl,rfl,ht,rfl,?_⟩
   refine ⟨_,rfl,rfl,_,rfl,iteK (by decide +kernel) ?_⟩
   refine ⟨_,rfl,rfl,_,rfl,iteK (by decide +kernel) ?_⟩
   refine ⟨_,rfl,rfl,_,rfl,iteK (by decide +kernel) ?_⟩
   refine ⟨_,rfl,rfl,_,rfl,iteY rfl ?_⟩
   exact ⟨_,rfl,_,rfl,_,rfl,t,_,_,_,rfl,rfl,ht,rfl,p,es,d,m,rfl,hp,hok.1,go _ rfl⟩
  | turn z=>
   refine ⟨_,rfl,t,_,_,_,rfl,rfl,ht,rfl,?_⟩
   refine ⟨_,rfl,rfl,_,rfl,iteK (by decide +kernel) ?_⟩
   refine ⟨_,rfl,rfl,_,rfl,iteK (by decide +kernel) ?_⟩
   refine ⟨_,rfl,rfl,_,rfl,iteK (by decide +kernel) ?_⟩
   refine ⟨_,rfl,rfl,_,rfl,iteK (by decide +kernel) ?_⟩
   refine ⟨_,rfl,rfl,_,rfl,iteY rfl ?_⟩
   refine ⟨_,rfl,_,rfl,p,_,rfl,.inr hp,_,_,rfl,rfl,_,rfl,?_⟩
   rw [dl]
   refine ite2 (fun h=>?_) (fun h=>?_)
   ·have hd:=of_decide_eq_true h
    refine ⟨_,rfl,_,rfl,p,_,_,_,rfl,rfl,hp,at_w hd,_,rfl,t,_,_,_,rfl,rfl,ht,rfl,rfl,go _ ?_⟩
    show (decide (d < es.length) && !decide (es[d]?=some z))=_
    rw [h,Bool.true_and,some_dec hd,str_dec]
   ·refine go _ ?_
    show (decide (d < es.length) && !decide (es[d]?=some z))=_
    rw [decide_eq_false (fun c=>h (decide_eq_true c)),Bool.false_and]
  | keep=>
   refine ⟨_,rfl,t,_,_,_,rfl,rfl,ht,rfl,?_⟩
   refine ⟨_,rfl,rfl,_,rfl,iteK (by decide +kernel) ?_⟩
   refine ⟨_,rfl,rfl,_,rfl,iteK (by decide +kernel) ?_⟩
   refine ⟨_,rfl,rfl,_,rfl,iteK (by decide +kernel) ?_⟩
   refine ⟨_,rfl,rfl,_,rfl,iteK (by decide +kernel) ?_⟩
   refine ⟨_,rfl,rfl,_,rfl,iteK (by decide +kernel) ?_⟩
   exact ⟨_,rfl,_,rfl,p,_,rfl,.inr hp,_,_,rfl,rfl,go _ dl.symm⟩
  | lose=>
   refine ⟨_,rfl,t,_,_,_,rfl,rfl,ht,rfl,?_⟩
   refine ⟨_,rfl,rfl,_,rfl,iteK (by decide +kernel) ?_⟩
   refine ⟨_,rfl,rfl,_,rfl,iteK (by decide +kernel) ?_⟩
   refine ⟨_,rfl,rfl,_,rfl,iteK (by decide +kernel) ?_⟩
   refine ⟨_,rfl,rfl,_,rfl,iteK (by decide +kernel) ?_⟩
   refine ⟨_,rfl,rfl,_,rfl,iteK (by decide +kernel) ?_⟩
   exact ⟨_,rfl,_,rfl,p,_,rfl,.inr hp,_,_,rfl,rfl,go _ dl.symm⟩
def spWd (K:PySem.W.Frag):Sp:=fun vs H Q _=>∃ (t:Addr) (st:Sk),vs=[.ref t]/\SqT K H t (stepV st)/\Q (.int (wd st:Nat)) H
theorem scWd:FnScope ["step","kind"] ["step"] (defScope sWd):=⟨rfl,rfl,rfl,by decide +kernel,rfl,by decide +kernel,by decide +kernel⟩
theorem ok_wd {f:Addr} {fd:FuncData} (F:Fun K "words_done" "words_done" sWd f fd):FnOk P w K mg base CX0 1 f fd ["step"] (spWd K):=by
 refine Fun.okR F scWd (fun vs H Q E h=>?_) (fun cdv A outer s H vs Q Q2 E hr h hq=>?_)
 ·obtain ⟨t,st,rfl,_⟩:=h
  rfl
 ·obtain ⟨t,st,rfl,ht,q⟩:=h
  refine ⟨_,pss_cons (ps_set (i:=1) scWd.nd rfl (Or.inl rfl) (pe_ix ix_tup (pv 0) pe_int (fun _ _=>rfl)))
   (pss_cons (ps_if (pw_or (pt_cmpR op_eq (pv 1) pe_str (nomark _)) (pw_or1 (pt_cmpR op_eq (pv 1) pe_str (nomark _)))).pt (pss_one (ps_ret pe_int)) pss_nil)
   (pss_cons (ps_if (pt_cmpR op_eq (pv 1) pe_str (nomark _)) (pss_one (ps_ret pe_int)) pss_nil)
   (pss_cons (ps_if (pt_cmpR op_eq (pv 1) pe_str (nomark _)) (pss_one (ps_ret (pe_ix ix_tup (pv 0) pe_int (fun _ _=>rfl)))) pss_nil)
   (pss_one (ps_ret pe_int))))),?_⟩
  have go:=hq _ _ (Rst.same (Same.refl H) q)
  cases st with
  | add z=>exact ⟨_,rfl,t,_,_,_,rfl,rfl,ht,rfl,_,rfl,rfl,_,rfl,iteY rfl (iteT go)⟩
  | twice=>exact ⟨_,rfl,t,_,_,_,rfl,rfl,ht,rfl,_,rfl,rfl,_,rfl,iteK (by decide +kernel) ⟨_,rfl,rfl,_,rfl,iteY rfl go⟩⟩
  | swap=>exact ⟨_,rfl,t,_,_,_,rfl,rfl,ht,rfl,_,rfl,rfl,_,rfl,iteK (by decide +kernel) ⟨_,rfl,rfl,_,rfl,iteK (by decide +kernel) ⟨_,rfl,rfl,_,rfl,iteY rfl go⟩⟩⟩
  | skip m=>exact ⟨_,rfl,t,_,_,_,rfl,rfl,ht,rfl,_,rfl,rfl,_,rfl,iteK (by decide +kernel) ⟨_,rfl,rfl,_,rfl,iteK (by decide +kernel) ⟨_,rfl,rfl,_,rfl,iteK (by decide +kernel) ⟨_,rfl,rfl,_,rfl,iteY rfl ⟨_,rfl,t,_,_,_,rfl,rfl,ht,rfl,go⟩⟩⟩⟩⟩
  | turn z=>exact ⟨_,rfl,t,_,_,_,rfl,rfl,ht,rfl,_,rfl,rfl,_,rfl,iteK (by decide +kernel) ⟨_,rfl,rfl,_,rfl,iteK (by decide +kernel) ⟨_,rfl,rfl,_,rfl,iteK (by decide +kernel) ⟨_,rfl,rfl,_,rfl,iteK (by decide +kernel) go⟩⟩⟩⟩
  | keep=>exact ⟨_,rfl,t,_,_,_,rfl,rfl,ht,rfl,_,rfl,rfl,_,rfl,iteK (by decide +kernel) ⟨_,rfl,rfl,_,rfl,iteK (by decide +kernel) ⟨_,rfl,rfl,_,rfl,iteK (by decide +kernel) ⟨_,rfl,rfl,_,rfl,iteK (by decide +kernel) go⟩⟩⟩⟩
  | lose=>exact ⟨_,rfl,t,_,_,_,rfl,rfl,ht,rfl,_,rfl,rfl,_,rfl,iteK (by decide +kernel) ⟨_,rfl,rfl,_,rfl,iteK (by decide +kernel) ⟨_,rfl,rfl,_,rfl,iteK (by decide +kernel) ⟨_,rfl,rfl,_,rfl,iteK (by decide +kernel) go⟩⟩⟩⟩
def spWw (K:PySem.W.Frag):Sp:=fun vs H Q _=>∃ (p t:Addr) (es:List Str) (d:Nat) (last:Option Str) (st:Sk),vs=[.ref p,.int (d:Nat),optS last,.ref t]/\SqT K H p (es.map V.str)/\SqT K H t (stepV st)/\fitsB es d last st=true/\∀ r,H r=none->Q (.ref r) (upd H r (.tup ((ww es d last st).map V.str)))
theorem scWw:FnScope ["elder","done","last","step","kind"] ["elder","done","last","step"] (defScope sWw):=⟨rfl,rfl,rfl,by decide +kernel,rfl,by decide +kernel,by decide +kernel⟩
theorem ok_ww {f:Addr} {fd:FuncData} (F:Fun K "words_written" "words_written" sWw f fd):FnOk P w K mg base CX0 1 f fd ["elder","done","last","step"] (spWw K):=by
 refine Fun.okR F scWw (fun vs H Q E h=>?_) (fun cdv A outer s H vs Q Q2 E hr h hq=>?_)
 ·obtain ⟨p,t,es,d,last,st,rfl,_⟩:=h
  rfl
 ·obtain ⟨p,t,es,d,last,st,rfl,hp,ht,hf,q⟩:=h
  refine ⟨_,pss_cons (ps_set (i:=4) scWw.nd rfl (Or.inl rfl) (pe_ix ix_tup (pv 3) pe_int (fun _ _=>rfl)))
   (pss_cons (ps_if (pw_or (pt_cmpR op_eq (pv 4) pe_str (nomark _)) (pw_or1 (pt_cmpR op_eq (pv 4) pe_str (nomark _)))).pt (pss_one (ps_ret (pe_tup pa_nil))) pss_nil)
   (pss_cons (ps_if (pw_or (pt_cmpR op_eq (pv 4) pe_str (nomark _)) (pw_or1 (pt_cmpR op_eq (pv 4) pe_str (nomark _)))).pt (pss_one (ps_ret (pe_tup (pa_cons (pe_ix ix_tup (pv 3) pe_int (fun _ _=>rfl)) pa_nil)))) pss_nil)
   (pss_cons (ps_if (pt_cmpR op_eq (pv 4) pe_str (nomark _)) (pss_one (ps_ret (pe_tup (pa_cons (pv 2) pa_nil)))) pss_nil)
   (pss_cons (ps_if (pt_cmpR op_eq (pv 4) pe_str (nomark _)) (pss_one (ps_ret (pe_tup (pa_cons (pe_ix ix_tup (pv 0) (pe_op op_add (pv 1) pe_int) (fun _ _=>rfl)) (pa_cons (pe_ix ix_tup (pv 0) (pv 1) (fun _ _=>rfl)) pa_nil))))) pss_nil)
   (pss_one (ps_ret (pe_tup (pa_cons (pe_ix ix_tup (pv 0) (pv 1) (fun _ _=>rfl)) pa_nil)))))))),?_⟩
  have go:∀ r,H r=none->Q2 (.ref r) (upd H r (.tup ((ww es d last st).map V.str))):=fun r hr'=>hq _ _ (Rst.one (same_upd hr') hr' upd_same trivial (q r hr'))
  have z1:(1:Nat)<=sizeLine:=few (by omega)
  have z2:(2:Nat)<=sizeLine:=few (by omega)
  cases st with
  | lose=>exact ⟨_,rfl,t,_,_,_,rfl,rfl,ht,rfl,_,rfl,rfl,_,rfl,iteY rfl (iteT ⟨Nat.zero_le _,go⟩)⟩
  | skip m=>exact ⟨_,rfl,t,_,_,_,rfl,rfl,ht,rfl,_,rfl,rfl,_,rfl,iteK (by decide +kernel) ⟨_,rfl,rfl,_,rfl,iteY rfl ⟨Nat.zero_le _,go⟩⟩⟩
  | turn z=>exact ⟨_,rfl,t,_,_,_,rfl,rfl,ht,rfl,_,rfl,rfl,_,rfl,iteK (by decide +kernel) ⟨_,rfl,rfl,_,rfl,iteK (by decide +kernel) ⟨_,rfl,rfl,_,rfl,iteY rfl (iteT ⟨_,rfl,t,_,_,_,rfl,rfl,ht,rfl,z1,go⟩)⟩⟩⟩
  | add z=>exact ⟨_,rfl,t,_,_,_,rfl,rfl,ht,rfl,_,rfl,rfl,_,rfl,iteK (by decide +kernel) ⟨_,rfl,rfl,_,rfl,iteK (by decide +kernel) ⟨_,rfl,rfl,_,rfl,iteK (by decide +kernel) ⟨_,rfl,rfl,_,rfl,iteY rfl ⟨_,rfl,t,_,_,_,rfl,rfl,ht,rfl,z1,go⟩⟩⟩⟩⟩
  | twice=>
   cases last with
   | none=>exact absurd hf Bool.false_ne_true
   | some l=>exact ⟨_,rfl,t,_,_,_,rfl,rfl,ht,rfl,_,rfl,rfl,_,rfl,iteK (by decide +kernel) ⟨_,rfl,rfl,_,rfl,iteK (by decide +kernel) ⟨_,rfl,rfl,_,rfl,iteK (by decide +kernel) ⟨_,rfl,rfl,_,rfl,iteK (by decide +kernel) ⟨_,rfl,rfl,_,rfl,iteY rfl ⟨_,rfl,z1,go⟩⟩⟩⟩⟩⟩
  | swap=>
   have hd:d+1 < es.length:=of_decide_eq_true (Bool.and_eq_true_iff.mp hf).1
   have e1:((d:Nat):Int)+1=((d+1:Nat):Int):=by omega
   exact ⟨_,rfl,t,_,_,_,rfl,rfl,ht,rfl,_,rfl,rfl,_,rfl,iteK (by decide +kernel) ⟨_,rfl,rfl,_,rfl,iteK (by decide +kernel) ⟨_,rfl,rfl,_,rfl,iteK (by decide +kernel) ⟨_,rfl,rfl,_,rfl,iteK (by decide +kernel) ⟨_,rfl,rfl,_,rfl,iteK (by decide +kernel) ⟨_,rfl,rfl,_,rfl,iteY rfl
    ⟨_,rfl,_,rfl,_,_,rfl,rfl,p,_,_,_,rfl,rfl,hp,(by rw [e1];exact at_w hd),_,rfl,_,rfl,p,_,_,_,rfl,rfl,hp,at_w (by omega),z2,go⟩⟩⟩⟩⟩⟩⟩
  | keep=>
   have hd:d < es.length:=of_decide_eq_true hf
   exact ⟨_,rfl,t,_,_,_,rfl,rfl,ht,rfl,_,rfl,rfl,_,rfl,iteK (by decide +kernel) ⟨_,rfl,rfl,_,rfl,iteK (by decide +kernel) ⟨_,rfl,rfl,_,rfl,iteK (by decide +kernel) ⟨_,rfl,rfl,_,rfl,iteK (by decide +kernel) ⟨_,rfl,rfl,_,rfl,iteK (by decide +kernel) ⟨_,rfl,rfl,_,rfl,iteK (by decide +kernel)
    ⟨_,rfl,_,rfl,p,_,_,_,rfl,rfl,hp,at_w hd,z1,go⟩⟩⟩⟩⟩⟩⟩
def AfterTo (H:Hp) (Q:VK) (d:Nat) (ws:List Str):Prop:=∀ t r,H t=none->H r=none->r ≠ t->Q (.ref r) (upd (upd H t (.tup (ws.map V.str))) r (.tup [.int (d:Nat),.ref t]))
def spAfter (K:PySem.W.Frag) (C:Addr):Sp:=fun vs H Q E=>∃ (p t:Addr) (es:List Str) (d:Nat) (last:Option Str) (st:Sk),vs=[.ref p,.int (d:Nat),optS last,.ref t]/\SqT K H p (es.map V.str)/\SqT K H t (stepV st)/\okS st ∧
 match after es d last st with
 | some (d',ws)=>AfterTo H Q d' ws
 | none=>E (.ref C) none H
theorem scAfter:FnScope ["elder","done","last","step"] ["elder","done","last","step"] (defScope sAfter):=⟨rfl,rfl,rfl,by decide +kernel,rfl,by decide +kernel,by decide +kernel⟩
theorem free_ne {H:Hp} {p r:Addr} {o:HO} (h:upd H p o r=none):r ≠ p/\H r=none:=by
 have n:r ≠ p:=fun e=>by rw [e,upd_same] at h;cases h
 exact ⟨n,by rw [upd_ne n] at h;exact h⟩
theorem rst_two {H H':Hp} {Q:Hp->Prop} {t r:Addr} {o1 o2:HO} (S:Same H H') (ht:H' t=none) (hr:upd H' t o1 r=none) (n1:newO o1) (n2:newO o2) (q:Q (upd (upd H t o1) r o2)):Rst H (upd (upd H' t o1) r o2) Q:=by
 have ht0:H t=none:=S.free ht
 obtain ⟨n,hr1⟩:=free_ne hr
 have s1:Same (upd H t o1) (upd H' t o1):=fun a o e=>by
  by_cases ha:a=t
  ·subst ha;rw [upd_same] at e ⊢;exact e
  ·rw [upd_ne ha] at e ⊢;exact S a o e
 have hr0:upd H t o1 r=none:=by rw [upd_ne n];exact S.free hr1
 exact Rst.more (same_upd ht0) (fun a o e=>by
  by_cases ha:a=t
  ·subst ha;rw [upd_same] at e;cases e;exact .inr n1
  ·rw [upd_ne ha] at e;exact .inl e) (Rst.one (s1.trans (same_upd hr)) hr0 upd_same n2 q)
theorem ok_after {f gF gS gD gW C:Addr} {fd dF dS dD dW:FuncData} (F:Fun K "step_after" "step_after" sAfter f fd) (DF:Dfn K mg "step_fits" sFits gF dF ["elder","done","last","step"]) (DS:Dfn K mg "skip_fits" sSkF gS dS ["elder","done","many"]) (DD:Dfn K mg "words_done" sWd gD dD ["step"]) (DW:Dfn K mg "words_written" sWw gW dW ["elder","done","last","step"])
  (mC:mg "NoSlips" = some (.ref C)) (xC:VEx K C) (mlen:mg "len" = none):FnOk P w K mg base (CXv P w) 3 f fd ["elder","done","last","step"] (spAfter K C):=by
 have GF:FnOk P w K mg base CX0 2 gF dF ["elder","done","last","step"] (spFits K):=ok_fits DF.fn DS mlen
 have GD:FnOk P w K mg base CX0 2 gD dD ["step"] (spWd K):=(ok_wd DD.fn).mono (by decide)
 have GW:FnOk P w K mg base CX0 2 gW dW ["elder","done","last","step"] (spWw K):=(ok_ww DW.fn).mono (by decide)
 refine Fun.okXR F scAfter (fun vs H Q E h=>?_) (fun cdv A outer s H vs Q Q2 E E2 hr h hq hE=>?_)
 ·obtain ⟨p,t,es,d,last,st,rfl,_⟩:=h
  rfl
 ·obtain ⟨p,t,es,d,last,st,rfl,hp,ht,hok,q⟩:=h
  refine ⟨_,pss_cons (ps_if (pt_not (pt_val (pe_call GF hr (by rfl) DF.at_ DF.fn.kp DF.bn .nil pass0 (pa_cons (pv 0) (pa_cons (pv 1) (pa_cons (pv 2) (pa_cons (pv 3) pa_nil))))))) (pss_one (ps_raise rfl (by rfl) mC xC lands_def pe_str)) pss_nil)
   (pss_one (ps_ret (pe_tup (pa_cons (pe_op op_add (pv 1) (pe_call GD hr (by rfl) DD.at_ DD.fn.kp DD.bn .nil pass0 (pa_cons (pv 3) pa_nil))) (pa_cons (pe_call GW hr (by rfl) DW.at_ DW.fn.kp DW.bn .nil pass0 (pa_cons (pv 0) (pa_cons (pv 1) (pa_cons (pv 2) (pa_cons (pv 3) pa_nil))))) pa_nil))))),?_⟩
  refine ⟨_,rfl,_,rfl,_,rfl,_,rfl,p,t,es,d,last,st,rfl,hp,ht,hok,_,rfl,?_⟩
  unfold after at q
  cases hf:fitsB es d last st with
  | false=>
   rw [hf,if_neg Bool.false_ne_true] at q
   exact iteT ⟨few (by show 1<=_;omega),hE _ _ _ (Rst.same (Same.refl H) q)⟩
  | true=>
   rw [hf,if_pos rfl] at q
   refine iteF ⟨_,rfl,_,rfl,t,st,rfl,ht,_,_,rfl,rfl,?_⟩
   refine ⟨_,rfl,_,rfl,_,rfl,_,rfl,p,t,es,d,last,st,rfl,hp,ht,hf,fun r hr1=>⟨few (by show 2<=_;omega),fun r2 hr2=>?_⟩⟩
   obtain ⟨n,hH⟩:=free_ne hr2
   have e:((d:Nat):Int)+((wd st:Nat):Int)=((d+wd st:Nat):Int):=by omega
   show Q2 (.ref r2) (upd (upd H r (.tup ((ww es d last st).map V.str))) r2 (.tup [.int (((d:Nat):Int)+((wd st:Nat):Int)),.ref r]))
   rw [e]
   exact hq _ _ (rst_two (Same.refl H) hr1 hr2 trivial trivial (q r r2 hr1 hH n))
def spSwW (K:PySem.W.Frag):Sp:=fun vs H Q _=>∃ (p q:Addr) (es cs:List Str) (i j:Nat),vs=[.ref p,.ref q,.int (i:Nat),.int (j:Nat)]/\SqT K H p (es.map V.str)/\SqT K H q (cs.map V.str)/\Q (.bl (swapW es cs i j)) H
theorem scSwW:FnScope ["elder","copy","i","j"] ["elder","copy","i","j"] (defScope sSwW):=⟨rfl,rfl,rfl,by decide +kernel,rfl,by decide +kernel,by decide +kernel⟩
theorem ok_sww {f:Addr} {fd:FuncData} (F:Fun K "swap_writes" "swap_writes" sSwW f fd) (mlen:mg "len" = none):FnOk P w K mg base CX0 1 f fd ["elder","copy","i","j"] (spSwW K):=by
 refine Fun.okR F scSwW (fun vs H Q E h=>?_) (fun cdv A outer s H vs Q Q2 E hr h hq=>?_)
 ·obtain ⟨p,q,es,cs,i,j,rfl,_⟩:=h
  rfl
 ·obtain ⟨p,q0,es,cs,i,j,rfl,hp,hc,q⟩:=h
  refine ⟨_,pss_cons (ps_if (pw_or (pt_cmpR op_ge (pe_op op_add (pv 2) pe_int) (pe_callB call_len_seq (by rfl) mlen PySem.boot_len (pa_cons (pv 0) pa_nil)) (nomark _)) (pw_or1 (pt_cmpR op_eq (pe_ix ix_tup (pv 0) (pv 2) (fun _ _=>rfl)) (pe_ix ix_tup (pv 0) (pe_op op_add (pv 2) pe_int) (fun _ _=>rfl)) (nomark _)))).pt (pss_one (ps_ret pe_bl)) pss_nil)
   (pss_one (ps_ret (pe_cmpR (op_eqS hr.units) (pe_slice sl_tupA (pv 1) (po_some (pv 3)) (po_some (pe_op op_add (pv 3) pe_int))) (pe_tup (pa_cons (pe_ix ix_tup (pv 0) (pe_op op_add (pv 2) pe_int) (fun _ _=>rfl)) (pa_cons (pe_ix ix_tup (pv 0) (pv 2) (fun _ _=>rfl)) pa_nil))) (nomark _)))),?_⟩
  have go:∀ b H',Same H H'->swapW es cs i j=b->Q2 (.bl b) H':=fun b H' S e=>hq _ _ (Rst.same S (by rw [<-e];exact q))
  have hlen:(es.map V.str).length=es.length:=List.length_map ..
  refine ⟨_,rfl,_,_,rfl,rfl,_,rfl,p,_,rfl,.inr hp,_,_,rfl,rfl,_,rfl,?_⟩
  rw [hlen]
  refine ite2 (fun h=>iteT (go _ _ (Same.refl _) ?_)) (fun h=>?_)
  ·have:=of_decide_eq_true h
   unfold swapW
   rw [if_neg (by omega)]
  have hi:¬ ((es.length:Int)<=((i:Nat):Int)+1):=fun c=>h (decide_eq_true c)
  have e1:((i:Nat):Int)+1=((i+1:Nat):Int):=by omega
  refine ⟨_,rfl,_,rfl,p,_,_,_,rfl,rfl,hp,at_w (by omega),_,rfl,_,rfl,_,_,rfl,rfl,p,_,_,_,rfl,rfl,hp,(by rw [e1];exact at_w (by omega)),rfl,_,rfl,?_⟩
  refine ite2 (fun h2=>go _ _ (Same.refl _) ?_) (fun h2=>?_)
  ·have e:=of_decide_eq_true h2
   injection e with e
   unfold swapW
   rw [if_pos (by omega),if_pos e]
  have hne:¬ gt es i=gt es (i+1):=fun c=>h2 (decide_eq_true (by rw [c]))
  refine ⟨_,rfl,_,rfl,_,rfl,_,rfl,_,_,rfl,rfl,_,rfl,cutTup hc fun pc Hc Sc hpc=>?_⟩
  rw [cutV_two] at hpc
  refine ⟨_,rfl,_,rfl,_,_,rfl,rfl,p,_,_,_,rfl,rfl,sameT Sc hp,(by rw [e1];exact at_w (by omega)),_,rfl,_,rfl,p,_,_,_,rfl,rfl,sameT Sc hp,at_w (by omega),few (by show 2<=_;omega),fun t ht=>?_⟩
  have St:=same_upd (o:=.tup [.str (gt es (i+1)),.str (gt es i)]) ht
  have q1:SqT K (upd Hc t (.tup [.str (gt es (i+1)),.str (gt es i)])) t ([gt es (i+1),gt es i].map V.str):=SqT.of upd_same
  refine ⟨0,_,by decide,EqS.strs (.inr ⟨sameT St hpc,q1⟩),go _ _ (Sc.trans St) ?_⟩
  unfold swapW
  rw [if_pos (by omega),if_neg hne]
def spSkL (K:PySem.W.Frag):Sp:=fun vs H Q _=>∃ (p:Addr) (es:List Str) (i:Nat),vs=[.ref p,.int (i:Nat)]/\SqT K H p (es.map V.str)/\i<=es.length/\es.length<=1000/\∀ l,H l=none->Q (.ref l) (upd H l (.lst ((skips es i).map fun k=>.int ((k:Nat):Int))))
theorem scSkL:FnScope ["elder","i"] ["elder","i"] (defScope sSkL):=⟨rfl,rfl,rfl,by decide +kernel,rfl,by decide +kernel,by decide +kernel⟩
theorem nd_kei:(["k","elder","i"]:List Str).Nodup:=by decide +kernel
theorem ok_skl {f:Addr} {fd:FuncData} (F:Fun K "skip_lengths" "skip_lengths" sSkL f fd) (mlen:mg "len" = none) (mrange:mg "range" = none):FnOk P w K mg base CX0 1 f fd ["elder","i"] (spSkL K):=by
 refine F.ok scSkL (fun vs H Q E h=>?_) (fun cdv A outer s H vs Q E hr h=>?_)
 ·obtain ⟨p,es,i,rfl,_⟩:=h
  rfl
 ·obtain ⟨p,es,i,rfl,hp,hi,hel,q⟩:=h
  refine ⟨_,pss_cons (ps_if (pt_cmpR op_eq (pv 1) pe_int (nomark _)) (pss_one (ps_ret (pe_lst pa_nil))) pss_nil)
   (pss_one (ps_ret (pe_comp (Nc:=["k","elder","i"]) (mp:=[none,some 0,some 1]) rfl (CompOk.of (by rfl)) (pi_range2 (by rfl) mrange (pa_cons pe_int (pa_cons (pe_op op_add (pe_op op_sub (pe_callB call_len_seq (by rfl) mlen PySem.boot_len (pa_cons (pv 0) pa_nil)) (pv 1)) pe_int) pa_nil)))
    (fun cl C s H fp=>⟨pg_name (i:=0) nd_kei rfl (Or.inl rfl),pts_one (pt_cmpR op_eq (pe_ix (ix_tupK (K:=K) rfl) (pv 1) (pe_op op_sub (pe_op op_add (pv 2) (pv 0)) pe_int) (fun _ _=>rfl)) (pe_ix (ix_tupK (K:=K) rfl) (pv 1) (pe_op op_sub (pv 2) pe_int) (fun _ _=>rfl)) (nomark _)),pv 0⟩)))),?_⟩
  have hlen:(es.map V.str).length=es.length:=List.length_map ..
  refine ⟨_,rfl,rfl,_,rfl,?_⟩
  by_cases h0:i=0
  ·refine iteY (by rw [h0];rfl) ⟨Nat.zero_le _,fun l hl=>?_⟩
   have:=q l hl
   unfold skips at this
   rw [if_pos h0] at this
   exact this
  refine iteK (fun e=>h0 (by injection e with e;omega)) ?_
  refine ⟨_,rfl,p,_,rfl,.inr hp,_,rfl,_,_,rfl,rfl,_,_,rfl,rfl,1,_,rfl,⟨by decide,by decide,by rw [hlen];omega,by rw [hlen];omega⟩,?_⟩
  have en:((((es.map V.str).length:Int) - ((i:Nat):Int)+1) - 1).toNat=es.length - i:=by rw [hlen];omega
  rw [en]
  refine comp_pure (as:=List.range (es.length - i)) (v:=fun k=>.int (1+((k:Nat):Int))) (fun k=>decide (gt es (i+k)=gt es (i - 1))) (fun k=>.int (1+((k:Nat):Int))) (src_range 1 (es.length - i) H) (by rw [List.length_range];exact few (by omega)) (fun k hk K' hK'=>?_) (fun k hk _ K' hK'=>⟨_,rfl,hK'⟩) (fun D hD=>?_)
  ·have hk':=List.mem_range.mp hk
   have e1:((i:Nat):Int)+(1+((k:Nat):Int)) - 1=((i+k:Nat):Int):=by omega
   have e2:((i:Nat):Int) - 1=((i - 1:Nat):Int):=by omega
   refine ⟨_,rfl,_,rfl,_,rfl,_,_,rfl,rfl,_,_,rfl,rfl,p,_,_,_,rfl,rfl,hp,(by rw [e1];exact at_w (by omega)),_,rfl,_,rfl,_,_,rfl,rfl,p,_,_,_,rfl,rfl,hp,(by rw [e2];exact at_w (by omega)),rfl,_,rfl,?_⟩
   rw [str_dec]
   exact hK'
  ·have:=q D hD
   unfold skips at this
   rw [if_neg h0,List.map_map] at this
   have ef:(fun k:Nat=>V.int (1+((k:Nat):Int)))=((fun k:Nat=>V.int ((k:Nat):Int)) ∘ fun x=>x+1):=by
    funext k
    show V.int (1+((k:Nat):Int))=V.int (((k+1:Nat)):Int)
    congr 1;omega
   rw [ef]
   exact this
def spWays (K:PySem.W.Frag):Sp:=fun vs H Q _=>∃ (p q:Addr) (es cs:List Str) (i j:Nat),vs=[.ref p,.ref q,.int (i:Nat),.int (j:Nat)]/\SqT K H p (es.map V.str)/\SqT K H q (cs.map V.str)/\i<=es.length/\j<=cs.length/\es.length<=1000 ∧
 ∀ (H':Hp) (l:Addr) (as:List Addr),Same H H'->H' l=some (.lst (as.map V.ref))->WaysAt H' as (ways es cs i j)->Q (.ref l) H'
theorem scWays:FnScope ["elder","copy","i","j","ways","step"] ["elder","copy","i","j"] (defScope sWays):=⟨rfl,rfl,rfl,by decide +kernel,rfl,by decide +kernel,by decide +kernel⟩
theorem nd_kij:(["k","i","j"]:List Str).Nodup:=by decide +kernel
theorem ok_ways {f gS gK:Addr} {fd dS dK:FuncData} (F:Fun K "knot_ways" "knot_ways" sWays f fd) (DS:Dfn K mg "swap_writes" sSwW gS dS ["elder","copy","i","j"]) (DK:Dfn K mg "skip_lengths" sSkL gK dK ["elder","i"]) (mlen:mg "len" = none) (mrange:mg "range" = none):FnOk P w K mg base CX0 2 f fd ["elder","copy","i","j"] (spWays K):=by
 have GS:FnOk P w K mg base CX0 1 gS dS ["elder","copy","i","j"] (spSwW K):=ok_sww DS.fn mlen
 have GK:FnOk P w K mg base CX0 1 gK dK ["elder","i"] (spSkL K):=ok_skl DK.fn mlen mrange
 refine F.ok scWays (fun vs H Q E h=>?_) (fun cdv A outer s H vs Q E hr h=>?_)
 ·obtain ⟨p,q,es,cs,i,j,rfl,_⟩:=h
  rfl
 ·obtain ⟨p,q0,es,cs,i,j,rfl,hp,hc,hi,hj,hel,q⟩:=h
  refine ⟨_,pss_cons (ps_set (i:=4) scWays.nd rfl (Or.inl rfl) (pe_lst pa_nil))
   (pss_cons (ps_mid (ps_if (pw_and (pt_cmpR op_lt (pv 2) (pe_callB call_len_seq (by rfl) mlen PySem.boot_len (pa_cons (pv 0) pa_nil)) (nomark _)) (pw_and1 (pt_cmpR op_lt (pv 3) (pe_callB call_len_seq (by rfl) mlen PySem.boot_len (pa_cons (pv 1) pa_nil)) (nomark _)))).pt
    (pss_cons (ps_set (i:=5) scWays.nd rfl (Or.inl rfl) (pe_ifExp (pt_cmpR op_eq (pe_ix ix_tup (pv 0) (pv 2) (fun _ _=>rfl)) (pe_ix ix_tup (pv 1) (pv 3) (fun _ _=>rfl)) (nomark _)) (pe_tup (pa_cons pe_str pa_nil)) (pe_tup (pa_cons pe_str (pa_cons (pe_ix ix_tup (pv 1) (pv 3) (fun _ _=>rfl)) pa_nil)))))
    (pss_one (ps_expr (pe_bm PySem.F.plainAttrs_list PySem.F.slot_list_append PySem.F.type_list_append mt_append (pv 4) (pa_cons (pe_tup (pa_cons (pv 5) (pa_cons (pe_op op_add (pv 2) pe_int) (pa_cons (pe_op op_add (pv 3) pe_int) pa_nil)))) pa_nil))))) pss_nil))
   (pss_cons (ps_mid (ps_if (pt_cmpR op_lt (pv 2) (pe_callB call_len_seq (by rfl) mlen PySem.boot_len (pa_cons (pv 0) pa_nil)) (nomark _)) (pss_one (ps_expr (pe_bm PySem.F.plainAttrs_list PySem.F.slot_list_append PySem.F.type_list_append mt_append (pv 4) (pa_cons (pe_tup (pa_cons (pe_tup (pa_cons pe_str pa_nil)) (pa_cons (pe_op op_add (pv 2) pe_int) (pa_cons (pv 3) pa_nil)))) pa_nil)))) pss_nil))
   (pss_cons (ps_mid (ps_if (pt_cmpR op_lt (pv 3) (pe_callB call_len_seq (by rfl) mlen PySem.boot_len (pa_cons (pv 1) pa_nil)) (nomark _)) (pss_one (ps_expr (pe_bm PySem.F.plainAttrs_list PySem.F.slot_list_append PySem.F.type_list_append mt_append (pv 4) (pa_cons (pe_tup (pa_cons (pe_tup (pa_cons pe_str (pa_cons (pe_ix ix_tup (pv 1) (pv 3) (fun _ _=>rfl)) pa_nil))) (pa_cons (pv 2) (pa_cons (pe_op op_add (pv 3) pe_int) pa_nil)))) pa_nil)))) pss_nil))
   (pss_cons (ps_mid (ps_if (pw_and (pt_chain op_lt op_lt pe_int (pv 3) (pe_callB call_len_seq (by rfl) mlen PySem.boot_len (pa_cons (pv 1) pa_nil))) (pw_and1 (pt_cmpR op_eq (pe_ix ix_tup (pv 1) (pv 3) (fun _ _=>rfl)) (pe_ix ix_tup (pv 1) (pe_op op_sub (pv 3) pe_int) (fun _ _=>rfl)) (nomark _)))).pt
    (pss_one (ps_expr (pe_bm PySem.F.plainAttrs_list PySem.F.slot_list_append PySem.F.type_list_append mt_append (pv 4) (pa_cons (pe_tup (pa_cons (pe_tup (pa_cons pe_str pa_nil)) (pa_cons (pv 2) (pa_cons (pe_op op_add (pv 3) pe_int) pa_nil)))) pa_nil)))) pss_nil))
   (pss_cons (ps_mid (ps_if (pt_val (pe_call GS hr (by rfl) DS.at_ DS.fn.kp DS.bn .nil pass0 (pa_cons (pv 0) (pa_cons (pv 1) (pa_cons (pv 2) (pa_cons (pv 3) pa_nil)))))) (pss_one (ps_expr (pe_bm PySem.F.plainAttrs_list PySem.F.slot_list_append PySem.F.type_list_append mt_append (pv 4) (pa_cons (pe_tup (pa_cons (pe_tup (pa_cons pe_str pa_nil)) (pa_cons (pe_op op_add (pv 2) pe_int) (pa_cons (pe_op op_add (pv 3) pe_int) pa_nil)))) pa_nil)))) pss_nil))
   (pss_cons (ps_expr (pe_bm PySem.F.plainAttrs_list PySem.F.slot_list_extend PySem.F.type_list_extend mt_extend (pv 4) (pa_cons (pe_comp (Nc:=["k","i","j"]) (mp:=[none,some 2,some 3]) rfl (CompOk.of (by rfl)) (pi_list (pe_call GK hr (by rfl) DK.at_ DK.fn.kp DK.bn .nil pass0 (pa_cons (pv 0) (pa_cons (pv 2) pa_nil))))
    (fun cl C s H fp=>⟨pg_name (i:=0) nd_kij rfl (Or.inl rfl),pts_nil,pe_tup (pa_cons (pe_tup (pa_cons pe_str (pa_cons (pv 0) pa_nil))) (pa_cons (pe_op op_add (pv 1) (pv 0)) (pa_cons (pv 2) pa_nil)))⟩)) pa_nil)))
   (pss_one (ps_ret (pv 4))))))))),?_⟩
  have z1:(1:Nat)<=sizeLine:=few (by omega)
  have z2:(2:Nat)<=sizeLine:=few (by omega)
  have z3:(3:Nat)<=sizeLine:=few (by omega)
  have hle:(es.map V.str).length=es.length:=List.length_map ..
  have hlc:(cs.map V.str).length=cs.length:=List.length_map ..
  have ei1:((i:Nat):Int)+1=((i+1:Nat):Int):=by omega
  have ej1:((j:Nat):Int)+1=((j+1:Nat):Int):=by omega
  have ei2:((i:Nat):Int)+2=((i+2:Nat):Int):=by omega
  have ej2:((j:Nat):Int)+2=((j+2:Nat):Int):=by omega
  have dle:decide (((i:Nat):Int) < ((es.map V.str).length:Int))=decide (i < es.length):=by rw [hle];exact decide_eq_decide.mpr (by omega)
  have dlc:decide (((j:Nat):Int) < ((cs.map V.str).length:Int))=decide (j < cs.length):=by rw [hlc];exact decide_eq_decide.mpr (by omega)
  refine ⟨Nat.zero_le _,fun l hl=>?_⟩
  refine ⟨fun σ' H'=>∃ (v5:Option V) (as:List Addr),σ'=[some (.ref p),some (.ref q0),some (.int (i:Nat)),some (.int (j:Nat)),some (.ref l),v5]/\H' l=some (.lst (as.map V.ref))/\Same H H'/\WaysAt H' as (w1 es cs i j)/\as.length<=1,?_,?_⟩
  ·refine ⟨_,rfl,_,rfl,p,_,rfl,.inr (sameT (same_upd hl) hp),_,_,rfl,rfl,_,rfl,?_⟩
   rw [dle]
   refine ite2 (fun h1=>?_) (fun h1=>iteF ⟨none,[],rfl,upd_same,same_upd hl,?_,Nat.zero_le _⟩)
   ·have h1:=of_decide_eq_true h1
    refine ⟨_,rfl,_,rfl,q0,_,rfl,.inr (sameT (same_upd hl) hc),_,_,rfl,rfl,_,rfl,?_⟩
    rw [dlc]
    refine ite2 (fun h2=>?_) (fun h2=>⟨none,[],rfl,upd_same,same_upd hl,?_,Nat.zero_le _⟩)
    ·have h2:=of_decide_eq_true h2
     have ew:w1 es cs i j=[((if gt es i=gt cs j then .keep else .turn (gt cs j)),i+1,j+1)]:=by unfold w1;rw [if_pos ⟨h1,h2⟩]
     rw [ew]
     have S0:=same_upd (o:=.lst []) hl
     have l0:upd H l (.lst []) l=some (.lst (([]:List Addr).map V.ref)):=upd_same
     refine ⟨_,rfl,_,rfl,p,_,_,_,rfl,rfl,sameT S0 hp,at_w h1,_,rfl,_,rfl,q0,_,_,_,rfl,rfl,sameT S0 hc,at_w h2,rfl,_,rfl,?_⟩
     have fin:∀ st:Sk,(if gt es i=gt cs j then Sk.keep else .turn (gt cs j))=st->∀ t,upd H l (.lst []) t=none->∀ a,upd (upd H l (.lst [])) t (.tup (stepV st)) a=none →
       upd (upd (upd H l (.lst [])) t (.tup (stepV st))) a (.tup (wayV t (st,i+1,j+1))) l=some (.lst (([]:List Addr).map V.ref)) ∧
       ∃ (v5:Option V) (as:List Addr),[some (V.ref p),some (V.ref q0),some (V.int (i:Nat)),some (V.int (j:Nat)),some (V.ref l),some (V.ref t)]=[some (.ref p),some (.ref q0),some (.int (i:Nat)),some (.int (j:Nat)),some (.ref l),v5] ∧
        upd (upd (upd (upd H l (.lst [])) t (.tup (stepV st))) a (.tup (wayV t (st,i+1,j+1)))) l (.lst (([]:List Addr).map V.ref++[.ref a])) l=some (.lst (as.map V.ref)) ∧
        Same H (upd (upd (upd (upd H l (.lst [])) t (.tup (stepV st))) a (.tup (wayV t (st,i+1,j+1)))) l (.lst (([]:List Addr).map V.ref++[.ref a]))) ∧
        WaysAt (upd (upd (upd (upd H l (.lst [])) t (.tup (stepV st))) a (.tup (wayV t (st,i+1,j+1)))) l (.lst (([]:List Addr).map V.ref++[.ref a]))) as [((if gt es i=gt cs j then .keep else .turn (gt cs j)),i+1,j+1)]/\as.length<=1:=fun st e t ht a ha=>by
      obtain ⟨b1,b2,b3,b4⟩:=way_add (x:=(st,i+1,j+1)) S0 hl l0 WaysAt.nil ht ha
      exact ⟨b1,_,[a],rfl,b2,b3,by rw [e];exact b4,Nat.le_refl _⟩
     by_cases he:gt es i=gt cs j
     ·refine iteY (by rw [he]) ⟨z1,fun t ht=>?_⟩
      have k1:=same_upd (o:=.tup (stepV .keep)) ht _ _ l0
      refine ⟨_,rfl,.inl ⟨rfl,_,SqL.of k1⟩,_,rfl,_,rfl,_,_,rfl,rfl,_,rfl,_,_,rfl,rfl,z3,fun a ha=>?_⟩
      obtain ⟨c1,c2⟩:=fin .keep (by rw [if_pos he]) t ht a ha
      exact ⟨l,_,_,rfl,rfl,c1,fewer (by show 0<=_;omega),c2⟩
     ·refine iteK (fun e=>he (by injection e)) ⟨_,rfl,_,rfl,q0,_,_,_,rfl,rfl,sameT S0 hc,at_w h2,z2,fun t ht=>?_⟩
      have k1:=same_upd (o:=.tup (stepV (.turn (gt cs j)))) ht _ _ l0
      refine ⟨_,rfl,.inl ⟨rfl,_,SqL.of k1⟩,_,rfl,_,rfl,_,_,rfl,rfl,_,rfl,_,_,rfl,rfl,z3,fun a ha=>?_⟩
      obtain ⟨c1,c2⟩:=fin (.turn (gt cs j)) (by rw [if_neg he]) t ht a ha
      exact ⟨l,_,_,rfl,rfl,c1,fewer (by show 0<=_;omega),c2⟩
    ·have h2:¬ j < cs.length:=fun c=>h2 (decide_eq_true c)
     unfold w1
     rw [if_neg (by omega)]
     exact WaysAt.nil
   ·have h1:¬ i < es.length:=fun c=>h1 (decide_eq_true c)
    unfold w1
    rw [if_neg (by omega)]
    exact WaysAt.nil
  rintro σ' H1 ⟨v5,as1,rfl,k1,S1,W1,L1⟩
  -- one way more,or none: the rest of the ifs
  have step:∀ {H2:Hp} {as:List Addr} {ws:List Way} (x:Way),H2 l=some (.lst (as.map V.ref))->Same H H2->WaysAt H2 as ws->∀ t,H2 t=none->∀ a,upd H2 t (.tup (stepV x.1)) a=none →
    upd (upd H2 t (.tup (stepV x.1))) a (.tup (wayV t x)) l=some (.lst (as.map V.ref))/\upd (upd (upd H2 t (.tup (stepV x.1))) a (.tup (wayV t x))) l (.lst (as.map V.ref++[.ref a])) l=some (.lst ((as++[a]).map V.ref)) ∧
    Same H (upd (upd (upd H2 t (.tup (stepV x.1))) a (.tup (wayV t x))) l (.lst (as.map V.ref++[.ref a])))/\WaysAt (upd (upd (upd H2 t (.tup (stepV x.1))) a (.tup (wayV t x))) l (.lst (as.map V.ref++[.ref a]))) (as++[a]) (ws++[x]):=fun x k S W t ht a ha=>way_add S hl k W ht ha
  -- lose
  refine ⟨fun σ' H'=>∃ (v5:Option V) (as:List Addr),σ'=[some (.ref p),some (.ref q0),some (.int (i:Nat)),some (.int (j:Nat)),some (.ref l),v5]/\H' l=some (.lst (as.map V.ref))/\Same H H'/\WaysAt H' as (w1 es cs i j++w2 es i j)/\as.length<=2,?_,?_⟩
  ·refine ⟨_,rfl,_,rfl,p,_,rfl,.inr (sameT S1 hp),_,_,rfl,rfl,_,rfl,?_⟩
   rw [dle]
   refine ite2 (fun h=>?_) (fun h=>⟨v5,as1,rfl,k1,S1,?_,by omega⟩)
   ·have h:=of_decide_eq_true h
    refine ⟨_,rfl,.inl ⟨rfl,_,SqL.of k1⟩,z1,fun t ht=>?_⟩
    refine ⟨_,rfl,_,_,rfl,rfl,_,rfl,z3,fun a ha=>?_⟩
    obtain ⟨c1,c2,c3,c4⟩:=step (.lose,i+1,j) k1 S1 W1 t ht a ha
    refine ⟨l,_,_,rfl,rfl,c1,(by rw [List.length_map];exact fewer (by omega)),v5,as1++[a],rfl,c2,c3,?_,by rw [List.length_append];show _+1<=_;omega⟩
    unfold w2
    rw [if_pos h]
    exact c4
   ·have h:¬ i < es.length:=fun c=>h (decide_eq_true c)
    unfold w2
    rw [if_neg h,List.append_nil]
    exact W1
  rintro σ' H2 ⟨v5,as2,rfl,k2,S2,W2,L2⟩
  -- add
  refine ⟨fun σ' H'=>∃ (v5:Option V) (as:List Addr),σ'=[some (.ref p),some (.ref q0),some (.int (i:Nat)),some (.int (j:Nat)),some (.ref l),v5]/\H' l=some (.lst (as.map V.ref))/\Same H H'/\WaysAt H' as (w1 es cs i j++w2 es i j++w3 cs i j)/\as.length<=3,?_,?_⟩
  ·refine ⟨_,rfl,_,rfl,q0,_,rfl,.inr (sameT S2 hc),_,_,rfl,rfl,_,rfl,?_⟩
   rw [dlc]
   refine ite2 (fun h=>?_) (fun h=>⟨v5,as2,rfl,k2,S2,?_,by omega⟩)
   ·have h:=of_decide_eq_true h
    refine ⟨_,rfl,.inl ⟨rfl,_,SqL.of k2⟩,_,rfl,_,rfl,q0,_,_,_,rfl,rfl,sameT S2 hc,at_w h,z2,fun t ht=>?_⟩
    refine ⟨_,rfl,_,rfl,_,_,rfl,rfl,z3,fun a ha=>?_⟩
    obtain ⟨c1,c2,c3,c4⟩:=step (.add (gt cs j),i,j+1) k2 S2 W2 t ht a ha
    refine ⟨l,_,_,rfl,rfl,c1,(by rw [List.length_map];exact fewer (by omega)),v5,as2++[a],rfl,c2,c3,?_,by rw [List.length_append];show _+1<=_;omega⟩
    unfold w3
    rw [if_pos h]
    exact c4
   ·have h:¬ j < cs.length:=fun c=>h (decide_eq_true c)
    unfold w3
    rw [if_neg h,List.append_nil]
    exact W2
  rintro σ' H3 ⟨v5,as3,rfl,k3,S3,W3,L3⟩
  -- twice
  refine ⟨fun σ' H'=>∃ (v5:Option V) (as:List Addr),σ'=[some (.ref p),some (.ref q0),some (.int (i:Nat)),some (.int (j:Nat)),some (.ref l),v5]/\H' l=some (.lst (as.map V.ref))/\Same H H'/\WaysAt H' as (w1 es cs i j++w2 es i j++w3 cs i j++w4 cs i j)/\as.length<=4,?_,?_⟩
  ·have none4:¬ (0 < j/\j < cs.length/\gt cs j=gt cs (j - 1))->∃ (v5':Option V) (as:List Addr),[some (V.ref p),some (V.ref q0),some (V.int (i:Nat)),some (V.int (j:Nat)),some (V.ref l),v5]=[some (.ref p),some (.ref q0),some (.int (i:Nat)),some (.int (j:Nat)),some (.ref l),v5']/\H3 l=some (.lst (as.map V.ref))/\Same H H3/\WaysAt H3 as (w1 es cs i j++w2 es i j++w3 cs i j++w4 cs i j)/\as.length<=4:=fun h=>by
    refine ⟨v5,as3,rfl,k3,S3,?_,by omega⟩
    unfold w4
    rw [if_neg h,List.append_nil]
    exact W3
   refine ⟨_,rfl,_,_,rfl,rfl,_,rfl,?_⟩
   refine ite2 (fun h0=>?_) (fun h0=>?_)
   ·have h0:=of_decide_eq_true h0
    refine ⟨_,rfl,q0,_,rfl,.inr (sameT S3 hc),_,_,rfl,rfl,_,rfl,?_⟩
    rw [dlc]
    refine ite2 (fun h1=>?_) (fun h1=>iteF (none4 fun c=>h1 (decide_eq_true c.2.1)))
    have h1:=of_decide_eq_true h1
    have e2:((j:Nat):Int) - 1=((j - 1:Nat):Int):=by omega
    refine ⟨_,rfl,_,rfl,q0,_,_,_,rfl,rfl,sameT S3 hc,at_w h1,_,rfl,_,rfl,_,_,rfl,rfl,q0,_,_,_,rfl,rfl,sameT S3 hc,(by rw [e2];exact at_w (by omega)),rfl,_,rfl,?_⟩
    refine ite2 (fun h2=>?_) (fun h2=>none4 fun c=>h2 (decide_eq_true (by rw [c.2.2])))
    have h2:=of_decide_eq_true h2
    injection h2 with h2
    refine ⟨_,rfl,.inl ⟨rfl,_,SqL.of k3⟩,z1,fun t ht=>?_⟩
    refine ⟨_,rfl,_,rfl,_,_,rfl,rfl,z3,fun a ha=>?_⟩
    obtain ⟨c1,c2,c3,c4⟩:=step (.twice,i,j+1) k3 S3 W3 t ht a ha
    refine ⟨l,_,_,rfl,rfl,c1,(by rw [List.length_map];exact fewer (by omega)),v5,as3++[a],rfl,c2,c3,?_,by rw [List.length_append];show _+1<=_;omega⟩
    unfold w4
    rw [if_pos ⟨by omega,h1,h2⟩]
    exact c4
   ·have h0:¬ ((0:Int) < ((j:Nat):Int)):=fun c=>h0 (decide_eq_true c)
    exact ⟨_,rfl,iteF (iteF (none4 fun c=>h0 (by omega)))⟩
  rintro σ' H4 ⟨v5,as4,rfl,k4,S4,W4,L4⟩
  -- swap
  refine ⟨fun σ' H'=>∃ (v5:Option V) (as:List Addr),σ'=[some (.ref p),some (.ref q0),some (.int (i:Nat)),some (.int (j:Nat)),some (.ref l),v5]/\H' l=some (.lst (as.map V.ref))/\Same H H'/\WaysAt H' as (w1 es cs i j++w2 es i j++w3 cs i j++w4 cs i j++w5 es cs i j)/\as.length<=5,?_,?_⟩
  ·refine ⟨_,rfl,_,rfl,_,rfl,_,rfl,p,q0,es,cs,i,j,rfl,sameT S4 hp,sameT S4 hc,_,rfl,?_⟩
   cases hsw:swapW es cs i j with
   | false=>
    refine iteF ⟨v5,as4,rfl,k4,S4,?_,by omega⟩
    unfold w5
    rw [hsw,if_neg Bool.false_ne_true,List.append_nil]
    exact W4
   | true=>
    refine iteT ⟨_,rfl,.inl ⟨rfl,_,SqL.of k4⟩,z1,fun t ht=>?_⟩
    refine ⟨_,rfl,_,_,rfl,rfl,_,rfl,_,_,rfl,rfl,z3,fun a ha=>?_⟩
    obtain ⟨c1,c2,c3,c4⟩:=step (.swap,i+2,j+2) k4 S4 W4 t ht a ha
    refine ⟨l,_,_,rfl,rfl,c1,(by rw [List.length_map];exact fewer (by omega)),v5,as4++[a],rfl,c2,c3,?_,by rw [List.length_append];show _+1<=_;omega⟩
    unfold w5
    rw [hsw,if_pos rfl]
    exact c4
  rintro σ' H5 ⟨v5,as5,rfl,k5,S5,W5,L5⟩
  -- skips
  have hskl:(skips es i).length<=1000:=by
   unfold skips
   split
   ·exact Nat.zero_le _
   ·rw [List.length_map]
    exact Nat.le_trans (List.length_filter_le _ _) (by rw [List.length_range];omega)
  refine ⟨_,rfl,.inl ⟨rfl,_,SqL.of k5⟩,_,rfl,_,rfl,p,es,i,rfl,sameT S5 hp,hi,hel,fun ls hls=>?_⟩
  have S6:=same_upd (o:=.lst ((skips es i).map fun k=>.int ((k:Nat):Int))) hls
  have s6:upd H5 ls (.lst ((skips es i).map fun k=>.int ((k:Nat):Int))) ls=some (.lst ((skips es i).map fun k=>.int ((k:Nat):Int))):=upd_same
  generalize hH6:upd H5 ls (.lst ((skips es i).map fun k=>.int ((k:Nat):Int)))=H6 at S6 s6
  refine ⟨ls,rfl,⟨_,SqL.of s6⟩,comp_grow (as:=skips es i) (v:=fun k=>.int ((k:Nat):Int)) (fun n acc H'=>∃ bs:List Addr,acc=bs.map V.ref/\WaysAt H' bs ((w6 es i j).take n)/\bs.length=n/\Same H6 H') (fun n acc H' _ ⟨_,_,_,_,S⟩=>src_list (SqL.of (S _ _ s6))) (few (by omega))
   ⟨[],rfl,WaysAt.nil,rfl,Same.refl _⟩ (fun n acc H' ⟨bs,e,_,hl,_⟩=>by rw [e,List.length_map,hl]) ?_ ?_⟩
  ·rintro n k acc H' hk ⟨bs,rfl,hW,hbl,S⟩ kk hkk
   refine ⟨_,rfl,z2,fun t ht=>?_⟩
   refine ⟨_,rfl,_,rfl,_,_,rfl,rfl,_,rfl,z3,fun a ha=>?_⟩
   have T1:=same_upd (o:=.tup (stepV (.skip k))) ht
   have ek:((i:Nat):Int)+((k:Nat):Int)=((i+k:Nat):Int):=by omega
   have T2:=same_upd (o:=.tup (wayV t (.skip k,i+k,j))) ha
   refine hkk _ _ ⟨bs++[a],by rw [List.map_append];rfl,?_,by rw [List.length_append,hbl];rfl,(S.trans T1).trans T2⟩
   have hnl:n < (w6 es i j).length:=by unfold w6;rw [List.length_map];exact (List.getElem?_eq_some_iff.mp hk).1
   have hx:(w6 es i j)[n]?=some (.skip k,i+k,j):=by unfold w6;rw [List.getElem?_map,hk];rfl
   rw [List.take_succ_eq_append_getElem hnl,(List.getElem?_eq_some_iff.mp hx).2]
   exact ((hW.mono T1).mono T2).app (WaysAt.one (x:=(.skip k,i+k,j)) upd_same (T2 _ _ upd_same))
  ·rintro acc H7 ⟨bs,rfl,hW,hbl,S7⟩ D hD
   have S8:=same_upd (o:=.lst (bs.map V.ref)) hD
   have k8:=S8 _ _ (S7 _ _ (S6 _ _ k5))
   have w8:(w6 es i j).take (skips es i).length=w6 es i j:=by
    have:(w6 es i j).length=(skips es i).length:=by unfold w6;rw [List.length_map]
    rw [<-this,List.take_length]
   rw [w8] at hW
   refine ⟨l,D,_,_,rfl,rfl,k8,upd_same,(by rw [List.length_map,List.length_map,hbl];exact few (by omega)),?_⟩
   refine ⟨_,rfl,q _ l (as5++bs) (same_to ((((S5.trans S6).trans S7)).trans S8) hl) (by rw [upd_same,List.map_append]) ?_⟩
   unfold ways
   exact ((((W5.mono S6).mono S7).mono S8).app (hW.mono S8)).set k8
def spAlike:Sp:=fun vs H Q _=>∃ a b:Str,vs=[.str a,.str b]/\a.length<=sizeLine/\b.length<=sizeLine/\Q (.bl (alikeB a.cps.toList b.cps.toList)) H
theorem scLooks:FnScope ["one","two","unlike"] ["one","two"] (defScope sLooks):=⟨rfl,rfl,rfl,by decide +kernel,rfl,by decide +kernel,by decide +kernel⟩
theorem nd_Looks:(["place","one","two"]:List Str).Nodup:=by decide +kernel
theorem ok_Looks {f:Addr} {fd:FuncData} (F:Fun K "looks_alike" "looks_alike" sLooks f fd) (mlen:mg "len" = none) (mrange:mg "range" = none):FnOk P w K mg base CX0 1 f fd ["one","two"] spAlike:=by
 refine Fun.okR F scLooks (fun vs H Q E h=>?_) (fun cdv A outer s H vs Q Q2 E hr h hq=>?_)
 ·obtain ⟨a,b,rfl,_⟩:=h
  rfl
 ·obtain ⟨a,b,rfl,ha,hb,q⟩:=h
  refine ⟨_,pss_cons (ps_if (pt_cmpR op_ne (pe_callB call_len_str (by rfl) mlen PySem.boot_len (pa_cons (pv 0) pa_nil)) (pe_callB call_len_str (by rfl) mlen PySem.boot_len (pa_cons (pv 1) pa_nil)) (nomark _)) (pss_one (ps_ret pe_bl)) pss_nil)
   (pss_cons (ps_setC (i:=2) (Nc:=["place","one","two"]) (mp:=[none,some 0,some 1]) rfl scLooks.nd rfl rfl (CompOk.of (by rfl)) (pi_range1 (by rfl) mrange (pa_cons (pe_callB call_len_str (by rfl) mlen PySem.boot_len (pa_cons (pv 0) pa_nil)) pa_nil))
    (fun cl C s H fp=>⟨pg_name (i:=0) nd_Looks rfl (Or.inl rfl),pts_one (pt_cmpR op_ne (pe_ix ix_str (pv 1) (pv 0) (fun _ _=>rfl)) (pe_ix ix_str (pv 2) (pv 0) (fun _ _=>rfl)) (nomark _)),pv 0⟩))
   (pss_one (ps_ret (pe_cmpR op_eq (pe_callB call_len_seq (by rfl) mlen PySem.boot_len (pa_cons (pv 2) pa_nil)) pe_int (nomark _))))),?_⟩
  refine ⟨_,rfl,a,rfl,ha,_,rfl,b,rfl,hb,rfl,_,rfl,?_⟩
  by_cases hl:a.length=b.length
  ·refine iteNS (by rw [hl]) ?_
   refine ⟨_,rfl,a,rfl,ha,(a.length:Int),rfl,(by omega),(by have:=szl;omega),?_⟩
   rw [Int.toNat_natCast]
   refine comp_pure (as:=List.range a.length) (v:=fun i=>.int (0+(i:Nat))) (fun i=>!decide (a.cps.toList[i]?=b.cps.toList[i]?)) (fun i=>.int (0+(i:Nat))) (src_range 0 a.length H) (by rw [List.length_range];exact ha) (fun i hi k hk=>?_) (fun i hi _ k hk=>?_) (fun D hD=>?_)
   ·have hi':=List.mem_range.mp hi
    have ea:a.cps.toList[i]?=some a.cps.toList[i]:=List.getElem?_eq_getElem (by rw [clen];exact hi')
    have eb:b.cps.toList[i]?=some b.cps.toList[i]:=List.getElem?_eq_getElem (by rw [clen,<-hl];exact hi')
    have ei:(0:Int)+((i:Nat):Int)=((i:Nat):Int):=by omega
    refine ⟨_,rfl,_,rfl,a,_,a.cps.toList[i],rfl,rfl,ha,(by rw [ei];exact atI_nat ea),_,rfl,_,rfl,b,_,b.cps.toList[i],rfl,rfl,hb,(by rw [ei];exact atI_nat eb),rfl,_,rfl,?_⟩
    have e:(!decide (V.str ⟨#[a.cps.toList[i]]⟩=V.str ⟨#[b.cps.toList[i]]⟩))=(!decide (a.cps.toList[i]?=b.cps.toList[i]?)):=by
     rw [ea,eb]
     congr 1
     exact decide_eq_decide.mpr ⟨fun z=>by injection z with z;injection z with z;simpa using z,fun z=>by rw [Option.some.inj z]⟩
    rw [e];exact hk
   ·exact ⟨_,rfl,hk⟩
   ·refine ⟨_,rfl,D,_,rfl,.inl (SqL.of upd_same),rfl,hq _ _ (Rst.same (same_upd hD) ?_)⟩
    rw [List.length_map]
    have e:decide (V.int (((List.range a.length).filter fun i=>!decide (a.cps.toList[i]?=b.cps.toList[i]?)).length:Nat)=V.int 1)=alikeB a.cps.toList b.cps.toList:=by
     unfold alikeB placesB
     rw [if_pos (by rw [clen,clen];exact hl),clen]
     exact decide_eq_decide.mpr ⟨fun z=>by injection z with z;omega,fun z=>by rw [z];rfl⟩
    rw [e];exact q
  ·refine ite2 (fun _=>?_) (fun h=>?_)
   ·refine hq _ _ (Rst.same (Same.refl H) ?_)
    have e:alikeB a.cps.toList b.cps.toList=false:=by
     unfold alikeB
     rw [if_neg (by rw [clen,clen];exact hl)]
    rw [<-e];exact q
   ·exfalso
    refine h ?_
    rw [decide_eq_false (fun z=>hl (by injection z with z;omega))];rfl
structure Places (w:World) (K:PySem.W.Frag) (a:Addr) (es:Array DictEntry) (n:Nat):Prop where
 at_:K.lookup a=some ⟨.type "dict",none,.dict es n,#[]⟩
 keys:PySem.W.KeysLit w.params es.toList
 p1:∃ t,PySem.W.nsIn K a "turn" = some (some (.int 1 t))
 p2:∃ t,PySem.W.nsIn K a "lose" = some (some (.int 2 t))
 p3:∃ t,PySem.W.nsIn K a "add" = some (some (.int 3 t))
 p4:∃ t,PySem.W.nsIn K a "twice" = some (some (.int 4 t))
 p5:∃ t,PySem.W.nsIn K a "swap" = some (some (.int 5 t))
 p6:∃ t,PySem.W.nsIn K a "skip" = some (some (.int 6 t))
def gI (pr:List Int) (i:Nat):Int:=(pr[i]?).getD 0
theorem at_p {pr:List Int} {i:Nat} (h:i < pr.length):atI (pr.map V.int) (i:Int)=some (.int (gI pr i)):=atI_nat (by rw [List.getElem?_map,List.getElem?_eq_getElem h];unfold gI;rw [List.getElem?_eq_getElem h];rfl)
def price (es:List Str) (d:Nat) (pr:List Int):Sk->Int
 | .keep=>0
 | .turn z=>if alikeB (gt es d).cps.toList z.cps.toList=true then gI pr 0 else gI pr 1
 | .lose=>gI pr 2
 | .add _=>gI pr 3
 | .twice=>gI pr 4
 | .swap=>gI pr 5
 | .skip _=>gI pr 6
def turnOk (es:List Str) (d:Nat):Sk->Prop
 | .turn _=>d < es.length
 | _=>True
def spPrice (K:PySem.W.Frag):Sp:=fun vs H Q _=>∃ (p t q:Addr) (es:List Str) (d:Nat) (st:Sk) (pr:List Int),vs=[.ref p,.int (d:Nat),.ref t,.ref q]/\SqT K H p (es.map V.str)/\(∀ z ∈ es,Good z)/\SqT K H t (stepV st)/\okS st/\turnOk es d st/\SqT K H q (pr.map V.int)/\pr.length=7/\Q (.int (price es d pr st)) H
theorem scPrice:FnScope ["elder","done","step","prices","kind"] ["elder","done","step","prices"] (defScope sPrice):=⟨rfl,rfl,rfl,by decide +kernel,rfl,by decide +kernel,by decide +kernel⟩
theorem ok_price {f gL aD:Addr} {fd dL:FuncData} {esD:Array DictEntry} {nD:Nat} (F:Fun K "step_price" "step_price" sPrice f fd) (DL:Dfn K mg "looks_alike" sLooks gL dL ["one","two"]) (GL:FnOk P w K mg base CX0 1 gL dL ["one","two"] spAlike)
  {tl:Tok} (mL:mg "LIKE" = some (.int 0 tl)) (mP:mg "PRICE_PLACES" = some (.ref aD)) (PL:Places w K aD esD nD):FnOk P w K mg base CX0 2 f fd ["elder","done","step","prices"] (spPrice K):=by
 refine Fun.okR F scPrice (fun vs H Q E h=>?_) (fun cdv A outer s H vs Q Q2 E hr h hq=>?_)
 ·obtain ⟨p,t,q,es,d,st,pr,rfl,_⟩:=h
  rfl
 ·obtain ⟨p,t,r,es,d,st,pr,rfl,hp,hg,ht,hok,hto,hpr,hl7,q⟩:=h
  refine ⟨_,pss_cons (ps_set (i:=4) scPrice.nd rfl (Or.inl rfl) (pe_ix ix_tup (pv 2) pe_int (fun _ _=>rfl)))
   (pss_cons (ps_if (pt_cmpR op_eq (pv 4) pe_str (nomark _)) (pss_one (ps_ret pe_int)) pss_nil)
   (pss_cons (ps_if (pw_and (pt_cmpR op_eq (pv 4) pe_str (nomark _)) (pw_and1 (pt_val (pe_call GL hr (by rfl) DL.at_ DL.fn.kp DL.bn .nil pass0 (pa_cons (pe_ix ix_tup (pv 0) (pv 1) (fun _ _=>rfl)) (pa_cons (pe_ix ix_tup (pv 2) pe_int (fun _ _=>rfl)) pa_nil)))))).pt
    (pss_one (ps_ret (pe_ix ix_tup (pv 3) (pe_glob (v:=.int 0) (by rfl) mL ⟨_,rfl⟩) (fun _ _=>rfl)))) pss_nil)
   (pss_one (ps_ret (pe_ix ix_tup (pv 3) (pe_ix (ix_dictM rfl PL.at_ PL.keys) (pe_glob (v:=.ref aD) (by rfl) mP rfl) (pv 4) (fun _ _=>rfl)) (fun _ _=>rfl)))))),?_⟩
  have go:∀ i,price es d pr st=i->Q2 (.int i) H:=fun i e=>hq _ _ (Rst.same (Same.refl H) (by rw [<-e];exact q))
  obtain ⟨t1,P1⟩:=PL.p1
  obtain ⟨t2,P2⟩:=PL.p2
  obtain ⟨t3,P3⟩:=PL.p3
  obtain ⟨t4,P4⟩:=PL.p4
  obtain ⟨t5,P5⟩:=PL.p5
  obtain ⟨t6,P6⟩:=PL.p6
  cases st with
  | keep=>exact ⟨_,rfl,t,_,_,_,rfl,rfl,ht,rfl,_,rfl,rfl,_,rfl,iteY rfl (go _ rfl)⟩
  | turn z=>
   have hd:d < es.length:=hto
   refine ⟨_,rfl,t,_,_,_,rfl,rfl,ht,rfl,?_⟩
   refine ⟨_,rfl,rfl,_,rfl,iteK (by decide +kernel) ?_⟩
   refine ⟨_,rfl,rfl,_,rfl,iteY rfl ?_⟩
   refine ⟨_,rfl,_,rfl,p,_,_,_,rfl,rfl,hp,at_w hd,_,rfl,t,_,_,_,rfl,rfl,ht,rfl,_,_,rfl,(hg _ (gt_mem hd)).small,Good.small hok,_,rfl,?_⟩
   cases hb:alikeB (gt es d).cps.toList z.cps.toList with
   | true=>exact iteT ⟨_,rfl,r,_,_,_,rfl,rfl,hpr,at_p (i:=0) (by omega),go _ (by show (if alikeB (gt es d).cps.toList z.cps.toList=true then _ else _)=_;rw [hb];rfl)⟩
   | false=>exact iteF ⟨_,rfl,_,rfl,_,.int 1,_,rfl,rfl,P1,⟨_,rfl⟩,r,_,_,_,rfl,rfl,hpr,at_p (i:=1) (by omega),go _ (by show (if alikeB (gt es d).cps.toList z.cps.toList=true then _ else _)=_;rw [hb];rfl)⟩
  | lose=>
   refine ⟨_,rfl,t,_,_,_,rfl,rfl,ht,rfl,_,rfl,rfl,_,rfl,iteK (by decide +kernel) ⟨_,rfl,rfl,_,rfl,iteK (by decide +kernel) (iteF ?_)⟩⟩
   exact ⟨_,rfl,_,rfl,_,.int 2,_,rfl,rfl,P2,⟨_,rfl⟩,r,_,_,_,rfl,rfl,hpr,at_p (i:=2) (by omega),go _ rfl⟩
  | add z=>
   refine ⟨_,rfl,t,_,_,_,rfl,rfl,ht,rfl,_,rfl,rfl,_,rfl,iteK (by decide +kernel) ⟨_,rfl,rfl,_,rfl,iteK (by decide +kernel) (iteF ?_)⟩⟩
   exact ⟨_,rfl,_,rfl,_,.int 3,_,rfl,rfl,P3,⟨_,rfl⟩,r,_,_,_,rfl,rfl,hpr,at_p (i:=3) (by omega),go _ rfl⟩
  | twice=>
   refine ⟨_,rfl,t,_,_,_,rfl,rfl,ht,rfl,_,rfl,rfl,_,rfl,iteK (by decide +kernel) ⟨_,rfl,rfl,_,rfl,iteK (by decide +kernel) (iteF ?_)⟩⟩
   exact ⟨_,rfl,_,rfl,_,.int 4,_,rfl,rfl,P4,⟨_,rfl⟩,r,_,_,_,rfl,rfl,hpr,at_p (i:=4) (by omega),go _ rfl⟩
  | swap=>
   refine ⟨_,rfl,t,_,_,_,rfl,rfl,ht,rfl,_,rfl,rfl,_,rfl,iteK (by decide +kernel) ⟨_,rfl,rfl,_,rfl,iteK (by decide +kernel) (iteF ?_)⟩⟩
   exact ⟨_,rfl,_,rfl,_,.int 5,_,rfl,rfl,P5,⟨_,rfl⟩,r,_,_,_,rfl,rfl,hpr,at_p (i:=5) (by omega),go _ rfl⟩
  | skip m=>
   refine ⟨_,rfl,t,_,_,_,rfl,rfl,ht,rfl,_,rfl,rfl,_,rfl,iteK (by decide +kernel) ⟨_,rfl,rfl,_,rfl,iteK (by decide +kernel) (iteF ?_)⟩⟩
   exact ⟨_,rfl,_,rfl,_,.int 6,_,rfl,rfl,P6,⟨_,rfl⟩,r,_,_,_,rfl,rfl,hpr,at_p (i:=6) (by omega),go _ rfl⟩
theorem row_none (n:Nat):rowV n (fun _=>none)=List.replicate (n+1) .non:=by
 unfold rowV
 rw [show (fun j:Nat=>ov ((fun _=>none:Nat->Option Int) j))=fun _=>V.non from rfl,List.map_const',List.length_range]
def spEmp (K:PySem.W.Frag):Sp:=fun vs H Q _=>∃ (p q:Addr) (es cs:List V),vs=[.ref p,.ref q]/\SqT K H p es/\SqT K H q cs/\es.length<=1000/\cs.length<=1000 ∧
 ∀ (H':Hp) (l:Addr) (rs:List Addr),Same H H'->H l=none->(∀ r ∈ rs,H r=none)->TabAt H' l rs es.length cs.length (fun _ _=>none)->Q (.ref l) H'
theorem scEmp:FnScope ["elder","copy"] ["elder","copy"] (defScope sEmp):=⟨rfl,rfl,rfl,by decide +kernel,rfl,by decide +kernel,by decide +kernel⟩
theorem nd_ic:(["i","copy"]:List Str).Nodup:=by decide +kernel
theorem ok_emp {f:Addr} {fd:FuncData} (F:Fun K "empty_table" "empty_table" sEmp f fd) (mlen:mg "len" = none) (mrange:mg "range" = none):FnOk P w K mg base CX0 1 f fd ["elder","copy"] (spEmp K):=by
 refine F.ok scEmp (fun vs H Q E h=>?_) (fun cdv A outer s H vs Q E hr h=>?_)
 ·obtain ⟨p,q,es,cs,rfl,_⟩:=h
  rfl
 ·obtain ⟨p,q0,es,cs,rfl,hp,hc,hel,hcl,q⟩:=h
  refine ⟨_,pss_one (ps_ret (pe_comp (Nc:=["i","copy"]) (mp:=[none,some 1]) rfl (CompOk.of (by rfl)) (pi_range1 (by rfl) mrange (pa_cons (pe_op op_add (pe_callB call_len_seq (by rfl) mlen PySem.boot_len (pa_cons (pv 0) pa_nil)) pe_int) pa_nil))
   (fun cl C s H fp=>⟨pg_name (i:=0) nd_ic rfl (Or.inl rfl),pts_nil,pe_op op_mulL (pe_lst (pa_cons pe_non pa_nil)) (pe_op op_add (pe_callB (call_len_seqK (K:=K) rfl) (by rfl) mlen PySem.boot_len (pa_cons (pv 1) pa_nil)) pe_int)⟩))),?_⟩
  refine ⟨_,rfl,p,_,rfl,.inr hp,_,_,rfl,rfl,_,rfl,by omega,by omega,?_⟩
  have en:((es.length:Int)+1).toNat=es.length+1:=by omega
  rw [en]
  refine comp_grow (as:=List.range (es.length+1)) (v:=fun k=>.int (0+((k:Nat):Int))) (fun i acc H'=>∃ rs:List Addr,acc=rs.map V.ref/\rs.length=i/\(∀ r ∈ rs,H' r=some (.lst (rowV cs.length fun _=>none)))/\rs.Nodup/\(∀ r ∈ rs,H r=none)/\Same H H')
   (fun i acc H' _ _=>src_range 0 (es.length+1) H') (by rw [List.length_range];exact few (by omega)) ⟨[],rfl,rfl,(fun _ z=>nomatch z),.nil,(fun _ z=>nomatch z),Same.refl _⟩ (fun i acc H' ⟨rs,e,hl,_⟩=>by rw [e,List.length_map,hl]) ?_ ?_
  ·rintro i k acc H' hk ⟨rs,rfl,hl,hrow,hnd,hfr,S⟩ kk hkk
   refine ⟨few (by show 1<=_;omega),fun t ht=>?_⟩
   have T1:=same_upd (o:=.lst [.non]) ht
   refine ⟨_,rfl,q0,_,rfl,.inr (sameT (S.trans T1) hc),_,_,rfl,rfl,t,.non,cs.length+1,rfl,(by congr 1),upd_same,by omega,fun r hr0=>?_⟩
   have T2:=same_upd (o:=.lst (List.replicate (cs.length+1) .non)) hr0
   have hr1:H' r=none:=T1.free hr0
   refine hkk _ _ ⟨rs++[r],by rw [List.map_append];rfl,by rw [List.length_append,hl];rfl,?_,?_,?_,(S.trans T1).trans T2⟩
   ·intro y hy
    rcases List.mem_append.mp hy with hy | hy
    ·exact T2 _ _ (T1 _ _ (hrow y hy))
    ·rw [List.mem_singleton.mp hy,upd_same,row_none]
   ·refine List.nodup_append.mpr ⟨hnd,(List.pairwise_singleton _ _),fun a ha b hb=>?_⟩
    rw [List.mem_singleton.mp hb]
    intro e
    rw [e] at ha
    rw [hrow r ha] at hr1
    cases hr1
   ·intro y hy
    rcases List.mem_append.mp hy with hy | hy
    ·exact hfr y hy
    ·rw [List.mem_singleton.mp hy];exact S.free hr1
  ·rintro acc H' ⟨rs,rfl,hl,hrow,hnd,hfr,S⟩ D hD
   rw [List.length_range] at hl
   have SD:=same_upd (o:=.lst (rs.map V.ref)) hD
   refine q _ D rs (S.trans SD) (S.free hD) hfr ⟨upd_same,hl,fun i r e=>SD _ _ (hrow r (List.mem_of_getElem? e)),hnd,fun z=>?_⟩
   rw [hrow D z] at hD
   cases hD
def spTld (K:PySem.W.Frag):Sp:=fun vs H Q _=>∃ (l:Addr) (rs:List Addr) (m n:Nat) (T:Tb),vs=[.ref l]/\TabAt H l rs m n T/\m<=1000 ∧
 ∀ (H':Hp) (p:Addr) (ps:List Addr),Same H H'->H' p=some (.tup (ps.map V.ref))->ps.length=m+1->(∀ i q,ps[i]?=some q->H' q=some (.tup (rowV n (T i))))->Q (.ref p) H'
theorem scTld:FnScope ["table"] ["table"] (defScope sTld):=⟨rfl,rfl,rfl,by decide +kernel,rfl,by decide +kernel,by decide +kernel⟩
theorem nd_row:(["row"]:List Str).Nodup:=by decide +kernel
theorem call_tuple_ofK {X:Cx} {K:PySem.W.Frag} (hK:X.K=K):CallR X (.type "tuple") (fun xs H Q=>∃ p ys,xs=[.ref p]/\((SqL K H p ys/\∀ l,H l=none->Q (.ref l) (upd H l (.tup ys)))\/(SqT K H p ys/\Q (.ref p) H))):=by subst hK;exact call_tuple_of
theorem ok_tld {f:Addr} {fd:FuncData} (F:Fun K "table_told" "table_told" sTld f fd) (mtuple:mg "tuple" = none):FnOk P w K mg base CX0 1 f fd ["table"] (spTld K):=by
 refine F.ok scTld (fun vs H Q E h=>?_) (fun cdv A outer s H vs Q E hr h=>?_)
 ·obtain ⟨l,rs,m,n,T,rfl,_⟩:=h
  rfl
 ·obtain ⟨l,rs,m,n,T,rfl,hT,hm,q⟩:=h
  refine ⟨_,pss_one (ps_ret (pe_callTy call_tuple_of (by rfl) mtuple boot_tuple (pa_cons (pe_comp (Nc:=["row"]) (mp:=[none]) rfl (CompOk.of (by rfl)) (pi_list (pv 0))
   (fun cl C s H fp=>⟨pg_name (i:=0) nd_row rfl (Or.inl rfl),pts_nil,pe_callTy (call_tuple_ofK (K:=K) rfl) (by rfl) mtuple boot_tuple (pa_cons (pv 0) pa_nil)⟩)) pa_nil))),?_⟩
  refine ⟨_,rfl,l,rfl,⟨_,SqL.of hT.top⟩,comp_grow (as:=rs) (v:=V.ref) (fun i acc H'=>∃ ps:List Addr,acc=ps.map V.ref/\ps.length=i/\(∀ j q,ps[j]?=some q->H' q=some (.tup (rowV n (T j))))/\Same H H')
   (fun i acc H' _ ⟨_,_,_,_,S⟩=>src_list (SqL.of (S _ _ hT.top))) (by rw [hT.len];exact few (by omega)) ⟨[],rfl,rfl,(fun j q z=>by simp at z),Same.refl _⟩ (fun i acc H' ⟨ps,e,hl,_⟩=>by rw [e,List.length_map,hl]) ?_ ?_⟩
  ·rintro i r acc H' hr ⟨ps,rfl,hl,hrow,S⟩ kk hkk
   refine ⟨_,rfl,r,_,rfl,.inl ⟨SqL.of (S _ _ (hT.row i r hr)),fun t ht=>?_⟩⟩
   have T1:=same_upd (o:=.tup (rowV n (T i))) ht
   refine hkk _ _ ⟨ps++[t],by rw [List.map_append];rfl,by rw [List.length_append,hl];rfl,fun j y hy=>?_,S.trans T1⟩
   by_cases hj:j < ps.length
   ·rw [List.getElem?_append_left hj] at hy
    exact T1 _ _ (hrow j y hy)
   ·rw [List.getElem?_append_right (by omega)] at hy
    have hj0:j - ps.length=0:=by
     have:=(List.getElem?_eq_some_iff.mp hy).1
     simp at this
     omega
    rw [hj0] at hy
    simp at hy
    have:j=i:=by omega
    rw [<-hy,upd_same,this]
  ·rintro acc H' ⟨ps,rfl,hl,hrow,S⟩ D hD
   have SD:=same_upd (o:=.lst (ps.map V.ref)) hD
   refine ⟨D,_,rfl,.inl ⟨SqL.of upd_same,fun t ht=>?_⟩⟩
   have St:=same_upd (o:=.tup (ps.map V.ref)) ht
   exact q _ t ps ((S.trans SD).trans St) upd_same (by rw [hl,hT.len]) (fun i y e=>St _ _ (SD _ _ (hrow i y e)))
theorem ways_few {es cs:List Str} {i j:Nat} (h:es.length<=1000):(ways es cs i j).length<=1100:=by
 have l6:(w6 es i j).length<=1000:=by
  unfold w6 skips
  rw [List.length_map]
  split
  ·exact Nat.zero_le _
  ·rw [List.length_map]
   exact Nat.le_trans (List.length_filter_le _ _) (by rw [List.length_range];omega)
 have l1:(w1 es cs i j).length<=1:=by unfold w1;split <;> simp
 have l2:(w2 es i j).length<=1:=by unfold w2;split <;> simp
 have l3:(w3 cs i j).length<=1:=by unfold w3;split <;> simp
 have l4:(w4 cs i j).length<=1:=by unfold w4;split <;> simp
 have l5:(w5 es cs i j).length<=1:=by unfold w5;split <;> simp
 unfold ways
 simp only [List.length_append]
 omega
theorem down_facts:∀ m,m < 101->Builtin.Range.small ((m:Nat):Int) (-1) (-1)=true/\Builtin.Range.rangeSize ((m:Nat):Int) (-1) (-1)=((m+1:Nat):Int):=by decide +kernel
def spRtab (K:PySem.W.Frag):Sp:=fun vs H Q _=>∃ (p q r:Addr) (es cs:List Str) (pr:List Int),vs=[.ref p,.ref q,.ref r]/\SqT K H p (es.map V.str)/\SqT K H q (cs.map V.str)/\SqT K H r (pr.map V.int)/\(∀ z ∈ es,Good z)/\(∀ z ∈ cs,Good z)/\es.length<=100/\cs.length<=100/\pr.length=7 ∧
 ∀ (H':Hp) (t:Addr) (ps:List Addr) (F:Nat->Nat->Int),Same H H'->H' t=some (.tup (ps.map V.ref))->ps.length=es.length+1->(∀ i y,ps[i]?=some y->H' y=some (.tup ((List.range (cs.length+1)).map fun j=>V.int (F i j))))->Rest (fun i st=>price es i pr st) es.length cs.length (ways es cs) F->Q (.ref t) H'
theorem scRtab:FnScope ["elder","copy","prices","table","i","j","ways","rests"] ["elder","copy","prices"] (defScope sRtab):=⟨rfl,rfl,rfl,by decide +kernel,rfl,by decide +kernel,by decide +kernel⟩
theorem nd_sdw:(["step","done","written","elder","i","prices","table"]:List Str).Nodup:=by decide +kernel
theorem pg_tupK {X:Cx} {es:List Expr} {k:Nat} {t:TGs} {n:Nat} {pos:Pos} (hK:X.K=K) (hc:X.calm=true) (h:PGs X es t)
  (hn:(assignEach es X.env).length=n:=by rfl) (hst:(assignEach es X.env).findIdx? (·.1)=none:=by rfl):PG X (.Tuple es k pos) (gTup K n t):=by
 subst hK
 exact pg_tup hc h hn hst
theorem zip_fst {α β:Type} (f:α->V):∀ {xs:List α} {ys:List β},xs.length=ys.length->(xs.zip ys).map (fun x=>f x.1)=xs.map f
 | [],_,_=>by simp
 | x :: xs,[],h=>by simp at h
 | x :: xs,y :: ys,h=>by
  rw [List.zip_cons_cons,List.map_cons,List.map_cons,zip_fst f (by simpa using h)]
theorem zip_snd {α β γ:Type} (f:β->γ):∀ {xs:List α} {ys:List β},xs.length=ys.length->(xs.zip ys).map (fun x=>f x.2)=ys.map f
 | [],[],_=>by simp
 | [],y :: ys,h=>by simp at h
 | x :: xs,[],h=>by simp at h
 | x :: xs,y :: ys,h=>by
  rw [List.zip_cons_cons,List.map_cons,List.map_cons,zip_snd f (by simpa using h)]
theorem zip_ways {H:Hp} {as:List Addr} {ws:List Way} (h:WaysAt H as ws):∃ ta:Addr × Way->Addr,∀ x ∈ as.zip ws,x.2 ∈ ws/\H x.1=some (.tup (wayV (ta x) x.2))/\H (ta x)=some (.tup (stepV x.2.1)):=by
 classical
 refine ⟨fun x=>if h:∃ t,H x.1=some (.tup (wayV t x.2))/\H t=some (.tup (stepV x.2.1)) then h.choose else x.1,fun x hx=>?_⟩
 obtain ⟨k,hk⟩:=List.mem_iff_getElem?.mp hx
 obtain ⟨h1,h2⟩:=List.getElem?_zip_eq_some.mp hk
 have hh:=h.item k x.1 x.2 h1 h2
 dsimp only
 rw [dif_pos hh]
 exact ⟨List.mem_of_getElem? h2,hh.choose_spec⟩
theorem ok_rtab {f gE gT gW gP:Addr} {fd dE dT dW dP:FuncData} (F:Fun K "rest_table" "rest_table" sRtab f fd) (DE:Dfn K mg "empty_table" sEmp gE dE ["elder","copy"]) (DT:Dfn K mg "table_told" sTld gT dT ["table"])
  (DW:Dfn K mg "knot_ways" sWays gW dW ["elder","copy","i","j"]) (GW:FnOk P w K mg base CX0 2 gW dW ["elder","copy","i","j"] (spWays K)) (DP:Dfn K mg "step_price" sPrice gP dP ["elder","done","step","prices"]) (GP:FnOk P w K mg base CX0 2 gP dP ["elder","done","step","prices"] (spPrice K))
  (mlen:mg "len" = none) (mrange:mg "range" = none) (mtuple:mg "tuple" = none) (mmin:mg "min" = none):FnOk P w K mg base CX0 3 f fd ["elder","copy","prices"] (spRtab K):=by
 have GE:FnOk P w K mg base CX0 2 gE dE ["elder","copy"] (spEmp K):=(ok_emp DE.fn mlen mrange).mono (by decide)
 have GT:FnOk P w K mg base CX0 2 gT dT ["table"] (spTld K):=(ok_tld DT.fn mtuple).mono (by decide)
 refine F.ok scRtab (fun vs H Q E h=>?_) (fun cdv A outer s H vs Q E hr h=>?_)
 ·obtain ⟨p,q,r,es,cs,pr,rfl,_⟩:=h
  rfl
 ·obtain ⟨p,q0,r0,es,cs,pr,rfl,hp,hc,hpr,hge,hgc,hel,hcl,h7,q⟩:=h
  refine ⟨_,pss_cons (ps_set (i:=3) scRtab.nd rfl (Or.inr rfl) (pe_call GE hr (by rfl) DE.at_ DE.fn.kp DE.bn .nil pass0 (pa_cons (pv 0) (pa_cons (pv 1) pa_nil))))
   (pss_cons (ps_for PassesOwn.never rfl (pi_range3 (by rfl) mrange (pa_cons (pe_callB call_len_seq (by rfl) mlen PySem.boot_len (pa_cons (pv 0) pa_nil)) (pa_cons (pe_un un_neg pe_int) (pa_cons (pe_un un_neg pe_int) pa_nil)))) (pg_name (i:=4) scRtab.nd rfl (Or.inr rfl))
    (pss_one (ps_for PassesOwn.never rfl (pi_range3 (by rfl) mrange (pa_cons (pe_callB call_len_seq (by rfl) mlen PySem.boot_len (pa_cons (pv 1) pa_nil)) (pa_cons (pe_un un_neg pe_int) (pa_cons (pe_un un_neg pe_int) pa_nil)))) (pg_name (i:=5) scRtab.nd rfl (Or.inl rfl))
     (pss_cons (ps_set (i:=6) scRtab.nd rfl (Or.inl rfl) (pe_call GW hr (by rfl) DW.at_ DW.fn.kp DW.bn .nil pass0 (pa_cons (pv 0) (pa_cons (pv 1) (pa_cons (pv 4) (pa_cons (pv 5) pa_nil))))))
     (pss_cons (ps_setC (i:=7) (Nc:=["step","done","written","elder","i","prices","table"]) (mp:=[none,none,none,some 0,some 4,some 2,some 3]) rfl scRtab.nd rfl rfl (CompOk.of (by rfl)) (pi_list (pv 6))
      (fun cl C s H fp=>⟨pg_tupK (K:=K) (n:=3) rfl rfl (pgs_cons (pg_name (i:=0) nd_sdw rfl (Or.inl rfl)) (pgs_cons (pg_name (i:=1) nd_sdw rfl (Or.inl rfl)) (pgs_cons (pg_name (i:=2) nd_sdw rfl (Or.inl rfl)) pgs_nil))),pts_nil,pe_op op_add (pe_call GP hr (by rfl) DP.at_ DP.fn.kp DP.bn .nil pass0 (pa_cons (pv 3) (pa_cons (pv 4) (pa_cons (pv 0) (pa_cons (pv 5) pa_nil))))) (pe_ix (ix_listK (K:=K) rfl) (pe_ix (ix_listK (K:=K) rfl) (pv 6) (pv 1) (fun _ _=>rfl)) (pv 2) (fun _ _=>rfl))⟩))
     (pss_one (ps_asg (pe_minD rfl (by rfl) mmin (pv 7)) (pg_sub (pe_ix ix_list (pv 3) (pv 4) (fun _ _=>rfl)) (pv 5) set_list))))))))
   (pss_one (ps_ret (pe_call GT hr (by rfl) DT.at_ DT.fn.kp DT.bn .nil pass0 (pa_cons (pv 3) pa_nil))))),?_⟩
  have hle:(es.map V.str).length=es.length:=List.length_map ..
  have hlc:(cs.map V.str).length=cs.length:=List.length_map ..
  refine ⟨_,rfl,_,rfl,p,q0,_,_,rfl,hp,hc,by omega,by omega,fun H0 l rs S0 hlf hrf hT0=>?_⟩
  rw [hle,hlc] at hT0
  have dm:=down_facts es.length (by omega)
  have dn:=down_facts cs.length (by omega)
  refine ⟨_,rfl,p,_,rfl,.inr (sameT S0 hp),_,rfl,_,rfl,((es.length:Nat):Int),-1,-1,es.length+1,by rw [hle],by decide,by decide,dm.1,dm.2,?_⟩
  refine for_range3 (fun k σ H2=>∃ (T:Tb) (v4 v5 v6 v7:Option V),σ=[some (.ref p),some (.ref q0),some (.ref r0),some (.ref l),v4,v5,v6,v7]/\TabAt H2 l rs es.length cs.length T/\(∀ a b,a<=es.length->b<=cs.length->es.length < a+k->RestAt (fun i st=>price es i pr st) (ways es cs) T a b)/\Same H H2)
   ⟨_,none,none,none,none,rfl,hT0,fun a b ha hb h=>absurd h (by omega),S0⟩ ?_ ?_
  ·rintro k σ H2 hk ⟨T2,v4,v5,v6,v7,rfl,hT2,hI2,S2⟩
   obtain ⟨i,hi⟩:∃ i:Nat,i+k=es.length:=⟨es.length - k,by omega⟩
   have ei:((es.length:Nat):Int)+((k:Nat):Int) * -1=((i:Nat):Int):=by omega
   rw [ei]
   refine ⟨_,rfl,q0,_,rfl,.inr (sameT S2 hc),_,rfl,_,rfl,((cs.length:Nat):Int),-1,-1,cs.length+1,by rw [hlc],by decide,by decide,dn.1,dn.2,?_⟩
   refine for_range3 (fun t σ H3=>∃ (T:Tb) (v5 v6 v7:Option V),σ=[some (.ref p),some (.ref q0),some (.ref r0),some (.ref l),some (.int ((i:Nat):Int)),v5,v6,v7]/\TabAt H3 l rs es.length cs.length T/\(∀ a b,a<=es.length->b<=cs.length->(i < a\/(a=i/\cs.length < b+t))->RestAt (fun i st=>price es i pr st) (ways es cs) T a b)/\Same H H3)
    ⟨T2,v5,v6,v7,rfl,hT2,fun a b ha hb h=>hI2 a b ha hb (by omega),S2⟩ ?_ ?_
   ·rintro t σ H3 ht ⟨T3,v5,v6,v7,rfl,hT3,hI3,S3⟩
    obtain ⟨j,hj⟩:∃ j:Nat,j+t=cs.length:=⟨cs.length - t,by omega⟩
    have ej:((cs.length:Nat):Int)+((t:Nat):Int) * -1=((j:Nat):Int):=by omega
    rw [ej]
    have hR:RestI (fun i st=>price es i pr st) es.length cs.length (ways es cs) i j T3:=fun a b ha hb h=>hI3 a b ha hb (by omega)
    refine ⟨_,rfl,_,rfl,_,rfl,_,rfl,p,q0,es,cs,i,j,rfl,sameT S3 hp,sameT S3 hc,by omega,by omega,by omega,fun H4 lw as S4 hlw hW=>?_⟩
    have hok:=ways_ok (i:=i) (j:=j) (es:=es) hgc (by omega)
    have htn:∀ x ∈ ways es cs i j,turnOk es i x.1:=fun x hx=>by
     cases hx1:x.1 with
     | turn z=>exact ways_turn hx hx1
     | _=>trivial
    have hfw:=ways_fwd es cs i j (by omega) (by omega)
    have hend:∀ x ∈ ways es cs i j,∃ u,T3 x.2.1 x.2.2=some u:=fun x hx=>hR.ends (ways_fwd es cs) (by omega) (by omega) hx
    have hput:=hR.put (ways_fwd es cs) (by omega) (by omega)
    have hwl:=ways_few (es:=es) (cs:=cs) (i:=i) (j:=j) (by omega)
    generalize hws:ways es cs i j=ws at hW hok htn hfw hend hput hwl
    have hT4:=hT3.mono S4
    have S34:=S3.trans S4
    obtain ⟨ta,hta⟩:=zip_ways hW
    have hlz:H4 lw=some (.lst ((as.zip ws).map fun x=>V.ref x.1)):=by rw [zip_fst V.ref hW.len];exact hlw
    refine ⟨_,rfl,lw,rfl,⟨_,SqL.of hlz⟩,comp_trip (K:=K) (as:=as.zip ws) (v:=fun x=>V.ref x.1) (x:=fun x=>V.ref (ta x)) (y:=fun x=>.int ((x.2.2.1:Nat):Int)) (z:=fun x=>.int ((x.2.2.2:Nat):Int)) (fun x=>.int (price es i pr x.2.1+(T3 x.2.2.1 x.2.2.2).getD 0)) (src_list (SqL.of hlz)) (by rw [List.length_zip,hW.len];exact few (by omega)) (fun x hx=>⟨x.1,rfl,SqT.of (hta x hx).2.1⟩) (fun x hx kc hkc=>?_) (fun D hD=>?_)⟩
    ·obtain ⟨hxm,hx1,hx2⟩:=hta x hx
     have hx:=hfw _ hxm
     obtain ⟨u,hu⟩:=hend _ hxm
     obtain ⟨rd,erd,ard,hrd⟩:=hT4.line (i:=x.2.2.1) hx.1
     refine ⟨_,rfl,_,rfl,_,rfl,_,rfl,p,ta x,r0,es,i,x.2.1,pr,rfl,sameT S34 hp,hge,SqT.of hx2,hok _ hxm,htn _ hxm,sameT S34 hpr,h7,_,rfl,_,rfl,l,_,_,_,rfl,rfl,SqL.of hT4.top,ard,_,rfl,rd,_,_,_,rfl,rfl,SqL.of hrd,rowV_atI _ hx.2.1,?_⟩
     rw [hu] at hkc ⊢
     exact ⟨_,_,rfl,rfl,hkc⟩
    ·have SD:=same_upd (o:=.lst ((as.zip ws).map fun x=>V.int (price es i pr x.2.1+(T3 x.2.2.1 x.2.2.2).getD 0))) hD
     have hDl:upd H4 D (.lst ((as.zip ws).map fun x=>V.int (price es i pr x.2.1+(T3 x.2.2.1 x.2.2.2).getD 0))) D=some (.lst ((ws.map fun x=>price es i pr x.1+(T3 x.2.1 x.2.2).getD 0).map V.int)):=by
      rw [upd_same,List.map_map,zip_snd (fun x:Way=>V.int (price es i pr x.1+(T3 x.2.1 x.2.2).getD 0)) hW.len]
      rfl
     have hT5:=hT4.mono SD
     have S5:=S34.trans SD
     generalize upd H4 D (.lst ((as.zip ws).map fun x=>V.int (price es i pr x.2.1+(T3 x.2.2.1 x.2.2.2).getD 0)))=H5 at SD hDl hT5 S5
     obtain ⟨ri,eri,ari,hri⟩:=hT5.line (i:=i) (by omega)
     have g2:∀ o,Same H (upd H5 ri o):=fun o=>same_to S5 (hrf ri (List.mem_of_getElem? eri))
     refine ⟨_,rfl,D,_,rfl,SqL.of hDl,fun e0=>?_,fun m hm hle'=>?_⟩
     ·refine ⟨_,rfl,_,rfl,l,_,_,_,rfl,rfl,SqL.of hT5.top,ari,_,rfl,ri,_,_,j,rfl,rfl,hri,ixN_nat (by rw [rowV_len];omega),T3.put i j 0,_,_,_,rfl,hT5.put 0 eri (by omega),fun a b ha hb h=>?_,g2 _⟩
      have:=hput a b ha hb (by omega)
      rw [e0] at this
      exact this
     ·have em:m=leastOf (ws.map fun x=>price es i pr x.1+(T3 x.2.1 x.2.2).getD 0):=by
       have h1:=leastOf_le hm
       have h2:=hle' _ (leastOf_mem (fun z=>by rw [z] at hm;cases hm))
       omega
      refine ⟨_,rfl,_,rfl,l,_,_,_,rfl,rfl,SqL.of hT5.top,ari,_,rfl,ri,_,_,j,rfl,rfl,hri,ixN_nat (by rw [rowV_len];omega),T3.put i j m,_,_,_,rfl,hT5.put m eri (by omega),fun a b ha hb h=>by rw [em];exact hput a b ha hb (by omega),g2 _⟩
   ·rintro σ H3 ⟨T3,v5,v6,v7,rfl,hT3,hI3,S3⟩
    exact ⟨T3,_,_,_,_,rfl,hT3,fun a b ha hb h=>hI3 a b ha hb (by omega),S3⟩
  ·rintro σ H2 ⟨T2,v4,v5,v6,v7,rfl,hT2,hI2,S2⟩
   obtain ⟨hall,hL⟩:=rest_of (fun a b ha hb=>hI2 a b ha hb (by omega)) (ways_none es cs) (fun i j hi hj hn=>ways_some es cs hi hj hn)
   refine ⟨_,rfl,l,rs,es.length,cs.length,T2,rfl,hT2,by omega,fun H9 t ps S9 ht hpl hrow=>?_⟩
   refine q H9 t ps (fun i j=>(T2 i j).getD 0) (S2.trans S9) ht hpl (fun i y e=>?_) hL
   rw [hrow i y e]
   congr 2
   unfold rowV
   apply List.map_congr_left
   intro j hj
   have:=List.mem_range.mp hj
   have hil:i < ps.length:=(List.getElem?_eq_some_iff.mp e).1
   obtain ⟨v,hv⟩:=hall i j (by omega) (by omega)
   rw [hv]
   rfl
structure NumsAt (H:Hp) (t:Addr) (ps:List Addr) (m n:Nat) (F:Nat->Nat->Int):Prop where
 top:H t=some (.tup (ps.map V.ref))
 len:ps.length=m+1
 row:∀ i y,ps[i]?=some y->H y=some (.tup ((List.range (n+1)).map fun j=>V.int (F i j)))
theorem NumsAt.mono {H H':Hp} {t:Addr} {ps:List Addr} {m n:Nat} {F:Nat->Nat->Int} (h:NumsAt H t ps m n F) (S:Same H H'):NumsAt H' t ps m n F:=⟨S _ _ h.top,h.len,fun i y e=>S _ _ (h.row i y e)⟩
theorem nums_line {H:Hp} {t:Addr} {ps:List Addr} {m n:Nat} {F:Nat->Nat->Int} (h:NumsAt H t ps m n F) {i:Nat} (hi:i<=m):∃ y,atI (ps.map V.ref) ((i:Nat):Int)=some (.ref y)/\H y=some (.tup ((List.range (n+1)).map fun j=>V.int (F i j))):=by
 have hl:i < ps.length:=by rw [h.len];omega
 exact ⟨ps[i],atI_nat (by rw [List.getElem?_map,List.getElem?_eq_getElem hl];rfl),h.row i _ (List.getElem?_eq_getElem hl)⟩
theorem nums_at {n j:Nat} (f:Nat->Int) (hj:j<=n):atI ((List.range (n+1)).map fun j=>V.int (f j)) ((j:Nat):Int)=some (.int (f j)):=
 atI_nat (by rw [List.getElem?_map,List.getElem?_range (by omega)];rfl)
theorem atI_last {xs:List V} {v:V} (h:xs[xs.length - 1]?=some v) (h0:0 < xs.length):atI xs (-1)=some v:=by
 unfold atI
 rw [<-h]
 have e:ixN xs.length (-1)=some (xs.length - 1):=by
  unfold ixN
  rw [if_neg (by omega)]
  rw [if_pos (by omega)]
  congr 1
  omega
 rw [e]
 rfl
theorem rest_min {pr:Nat->Sk->Int} {es cs:List Str} {R:Nat->Nat->Int} (h:Rest pr es.length cs.length (ways es cs) R) {i j:Nat} (hi:i<=es.length) (hj:j<=cs.length):leastOf ((ways es cs i j).map fun x=>pr i x.1+R x.2.1 x.2.2)=R i j:=by
 by_cases e:i=es.length/\j=cs.length
 ·obtain ⟨rfl,rfl⟩:=e
  rw [ways_none,h.z]
  rfl
 ·have hne:=ways_some es cs hi hj e
  obtain ⟨x,hx,ex⟩:=h.eq i j hi hj e
  have h1:leastOf ((ways es cs i j).map fun x=>pr i x.1+R x.2.1 x.2.2)<=R i j:=by
   rw [ex]
   exact leastOf_le (List.mem_map.mpr ⟨x,hx,rfl⟩)
  obtain ⟨y,hy,ey⟩:=List.mem_map.mp (leastOf_mem (l:=(ways es cs i j).map fun x=>pr i x.1+R x.2.1 x.2.2) (fun z=>hne (List.map_eq_nil_iff.mp z)))
  have h2:=h.le i j hi hj y hy
  omega
def cheap (es cs:List Str) (pr:List Int) (R:Nat->Nat->Int) (i j:Nat):List Way:=(ways es cs i j).filter fun x=>decide (price es i pr x.1+R x.2.1 x.2.2=R i j)
theorem cheap_in {es cs:List Str} {pr:List Int} {R:Nat->Nat->Int} {i j:Nat} {x:Way} (h:x ∈ cheap es cs pr R i j):x ∈ ways es cs i j/\price es i pr x.1+R x.2.1 x.2.2=R i j:=
 ⟨(List.mem_filter.mp h).1,of_decide_eq_true (List.mem_filter.mp h).2⟩
def Told (es cs:List Str) (pr:List Int) (R:Nat->Nat->Int):Nat->Nat->List Sk->Prop
 | i,j,[]=>i=es.length/\j=cs.length
 | i,j,st :: r=>∃ x,(cheap es cs pr R i j).head?=some x/\x.1=st/\Told es cs pr R x.2.1 x.2.2 r
def spCW (K:PySem.W.Frag):Sp:=fun vs H Q _=>∃ (p q r t:Addr) (es cs:List Str) (pr:List Int) (ps:List Addr) (R:Nat->Nat->Int) (i j:Nat),vs=[.ref p,.ref q,.ref r,.ref t,.int ((i:Nat):Int),.int ((j:Nat):Int)]/\SqT K H p (es.map V.str)/\SqT K H q (cs.map V.str)/\SqT K H r (pr.map V.int)/\(∀ z ∈ es,Good z)/\(∀ z ∈ cs,Good z)/\es.length<=100/\cs.length<=100/\pr.length=7/\NumsAt H t ps es.length cs.length R/\i<=es.length/\j<=cs.length ∧
 ∀ (H':Hp) (l:Addr) (as:List Addr),Same H H'->H' l=some (.lst (as.map V.ref))->WaysAt H' as (cheap es cs pr R i j)->Q (.ref l) H'
theorem scCW:FnScope ["elder","copy","prices","rest","i","j","ways","step","done","written"] ["elder","copy","prices","rest","i","j"] (defScope sCW):=⟨rfl,rfl,rfl,by decide +kernel,rfl,by decide +kernel,by decide +kernel⟩
theorem ok_cw {f gW gP:Addr} {fd dW dP:FuncData} (F:Fun K "cheapest_ways" "cheapest_ways" sCW f fd) (DW:Dfn K mg "knot_ways" sWays gW dW ["elder","copy","i","j"]) (GW:FnOk P w K mg base CX0 2 gW dW ["elder","copy","i","j"] (spWays K)) (DP:Dfn K mg "step_price" sPrice gP dP ["elder","done","step","prices"]) (GP:FnOk P w K mg base CX0 2 gP dP ["elder","done","step","prices"] (spPrice K)):FnOk P w K mg base CX0 3 f fd ["elder","copy","prices","rest","i","j"] (spCW K):=by
 refine F.ok scCW (fun vs H Q E h=>?_) (fun cdv A outer s H vs Q E hr h=>?_)
 ·obtain ⟨p,q,r,t,es,cs,pr,ps,R,i,j,rfl,_⟩:=h
  rfl
 ·obtain ⟨p,q0,r0,t,es,cs,pr,ps,R,i,j,rfl,hp,hc,hpr,hge,hgc,hel,hcl,h7,hN,hi,hj,q⟩:=h
  refine ⟨_,pss_cons (ps_set (i:=6) scCW.nd rfl (Or.inl rfl) (pe_lst pa_nil))
   (pss_cons (ps_for PassesOwn.never rfl (pi_list (pe_call GW hr (by rfl) DW.at_ DW.fn.kp DW.bn .nil pass0 (pa_cons (pv 0) (pa_cons (pv 1) (pa_cons (pv 4) (pa_cons (pv 5) pa_nil)))))) (pg_tup (n:=3) rfl (pgs_cons (pg_name (i:=7) scCW.nd rfl (Or.inl rfl)) (pgs_cons (pg_name (i:=8) scCW.nd rfl (Or.inl rfl)) (pgs_cons (pg_name (i:=9) scCW.nd rfl (Or.inl rfl)) pgs_nil))))
    (pss_one (ps_if (pt_cmpR op_eq (pe_op op_add (pe_call GP hr (by rfl) DP.at_ DP.fn.kp DP.bn .nil pass0 (pa_cons (pv 0) (pa_cons (pv 4) (pa_cons (pv 7) (pa_cons (pv 2) pa_nil))))) (pe_ix ix_tup (pe_ix ix_tup (pv 3) (pv 8) (fun _ _=>rfl)) (pv 9) (fun _ _=>rfl))) (pe_ix ix_tup (pe_ix ix_tup (pv 3) (pv 4) (fun _ _=>rfl)) (pv 5) (fun _ _=>rfl)) (nomark _)) (pss_one (ps_expr (pe_bm PySem.F.plainAttrs_list PySem.F.slot_list_append PySem.F.type_list_append mt_append (pv 6) (pa_cons (pe_tup (pa_cons (pv 7) (pa_cons (pv 8) (pa_cons (pv 9) pa_nil)))) pa_nil)))) pss_nil)))
   (pss_one (ps_ret (pv 6)))),?_⟩
  refine ⟨Nat.zero_le _,fun l hl=>?_⟩
  have S0:=same_upd (o:=.lst []) hl
  refine ⟨_,rfl,_,rfl,_,rfl,_,rfl,p,q0,es,cs,i,j,rfl,sameT S0 hp,sameT S0 hc,hi,hj,by omega,fun H1 lw as S1 hlw hW=>?_⟩
  have hok:=ways_ok (i:=i) (j:=j) (es:=es) hgc (by omega)
  have htn:∀ x ∈ ways es cs i j,turnOk es i x.1:=fun x hx=>by
   cases hx1:x.1 with
   | turn z=>exact ways_turn hx hx1
   | _=>trivial
  have hfw:=ways_fwd es cs i j hi hj
  have hwl:=ways_few (es:=es) (cs:=cs) (i:=i) (j:=j) (by omega)
  unfold cheap at q
  generalize ways es cs i j=ws at hW hok htn hfw hwl q
  have S01:=S0.trans S1
  have hl1:=S1 _ _ (upd_same (H:=H) (a:=l) (o:=.lst []))
  have nlw:lw ≠ l\/as=[]:=by
   by_cases e:lw=l
   ·right
    rw [e,hl1] at hlw
    injection hlw with h1
    injection h1 with h2
    exact List.map_eq_nil_iff.mp h2.symm
   ·exact .inl e
  refine ⟨lw,rfl,⟨_,SqL.of hlw⟩,for_list (K:=K) (a:=lw) (xs:=as.map V.ref) (fun k σ H2=>∃ (bs:List Addr) (v7 v8 v9:Option V),σ=[some (.ref p),some (.ref q0),some (.ref r0),some (.ref t),some (.int ((i:Nat):Int)),some (.int ((j:Nat):Int)),some (.ref l),v7,v8,v9]/\H2 l=some (.lst (bs.map V.ref))/\H2 lw=some (.lst (as.map V.ref))/\WaysAt H2 as ws/\Same H H2/\WaysAt H2 bs ((ws.take k).filter fun x=>decide (price es i pr x.1+R x.2.1 x.2.2=R i j)))
   ⟨[],none,none,none,rfl,hl1,hlw,hW,S01,rfl,fun k a x e=>by simp at e⟩ (fun k σ H2 _ ⟨_,_,_,_,_,_,h,_⟩=>SqL.of h) ?_ ?_⟩
  ·rintro k y σ H2 hk ⟨bs,v7,v8,v9,rfl,h2,hlw2,hW2,S2,hB⟩
   obtain ⟨a,hak,rfl⟩:=ref_at hk
   have hne:as ≠ []:=fun z=>by rw [z] at hak;simp at hak
   have nl:lw ≠ l:=nlw.resolve_right hne
   have hkl:k < ws.length:=by rw [<-hW2.len];exact (List.getElem?_eq_some_iff.mp hak).1
   obtain ⟨ts,ha,hts⟩:=hW2.item k a ws[k] hak (List.getElem?_eq_getElem hkl)
   have hxm:ws[k] ∈ ws:=List.getElem_mem hkl
   have hx:=hfw _ hxm
   have hx1:=hok _ hxm
   have hx2:=htn _ hxm
   have htake:ws.take (k+1)=ws.take k++[ws[k]]:=List.take_succ_eq_append_getElem hkl
   generalize ws[k]=x at *
   have hN2:=hN.mono S2
   obtain ⟨z1,az1,hz1⟩:=nums_line hN2 hx.1
   obtain ⟨z2,az2,hz2⟩:=nums_line hN2 hi
   refine ⟨_,_,rfl,SqT.of ha,rfl,_,_,rfl,_,_,rfl,_,_,rfl,rfl,?_⟩
   refine ⟨_,rfl,_,rfl,_,rfl,_,rfl,p,ts,r0,es,i,x.1,pr,rfl,sameT S2 hp,hge,SqT.of hts,hx1,hx2,sameT S2 hpr,h7,_,rfl,_,rfl,t,_,_,_,rfl,rfl,SqT.of hN2.top,az1,_,rfl,z1,_,_,_,rfl,rfl,SqT.of hz1,nums_at _ hx.2.1,_,_,rfl,rfl,_,rfl,_,rfl,t,_,_,_,rfl,rfl,SqT.of hN2.top,az2,_,rfl,z2,_,_,_,rfl,rfl,SqT.of hz2,nums_at _ hj,rfl,_,rfl,?_⟩
   refine ite2 (fun h=>?_) (fun h=>?_)
   ·have h:=of_decide_eq_true h
    injection h with h
    have ef:(ws.take (k+1)).filter (fun x=>decide (price es i pr x.1+R x.2.1 x.2.2=R i j))=(ws.take k).filter (fun x=>decide (price es i pr x.1+R x.2.1 x.2.2=R i j))++[x]:=by
     rw [htake,List.filter_append,List.filter_cons_of_pos (by exact decide_eq_true h),List.filter_nil]
    refine ⟨_,rfl,.inl ⟨rfl,_,SqL.of h2⟩,_,rfl,_,rfl,_,rfl,few (by show 3<=_;omega),fun b hb=>?_⟩
    have S3:=same_upd (o:=.tup (wayV ts x)) hb
    have h3:=S3 _ _ h2
    have hbl:bs.length<=k:=by rw [hB.len];exact Nat.le_trans (List.length_filter_le _ _) (by rw [List.length_take];omega)
    refine ⟨l,_,_,rfl,rfl,h3,(by rw [List.length_map];exact fewer (by omega)),bs++[b],_,_,_,rfl,by rw [upd_same,List.map_append];rfl,by rw [upd_ne nl];exact S3 _ _ hlw2,(hW2.mono S3).set h3,same_to (S2.trans S3) hl,?_⟩
    rw [ef]
    exact WaysAt.set ((hB.mono S3).app (WaysAt.one upd_same (S3 _ _ hts))) h3
   ·have h:¬ (price es i pr x.1+R x.2.1 x.2.2=R i j):=fun z=>h (decide_eq_true (by show V.int (price es i pr x.1+R x.2.1 x.2.2)=_;rw [z]))
    have ef:(ws.take (k+1)).filter (fun x=>decide (price es i pr x.1+R x.2.1 x.2.2=R i j))=(ws.take k).filter (fun x=>decide (price es i pr x.1+R x.2.1 x.2.2=R i j)):=by
     rw [htake,List.filter_append,List.filter_cons_of_neg (by rw [decide_eq_false h];exact Bool.false_ne_true),List.filter_nil,List.append_nil]
    exact ⟨bs,_,_,_,rfl,h2,hlw2,hW2,S2,by rw [ef];exact hB⟩
  ·rintro σ H2 ⟨bs,v7,v8,v9,rfl,h2,hlw2,hW2,S2,hB⟩
   rw [List.length_map,hW2.len,List.take_length] at hB
   exact ⟨_,rfl,q _ l bs S2 h2 hB⟩
def spFC (K:PySem.W.Frag):Sp:=fun vs H Q _=>∃ (p q r:Addr) (es cs:List Str) (pr:List Int),vs=[.ref p,.ref q,.ref r]/\SqT K H p (es.map V.str)/\SqT K H q (cs.map V.str)/\SqT K H r (pr.map V.int)/\(∀ z ∈ es,Good z)/\(∀ z ∈ cs,Good z)/\es.length<=100/\cs.length<=100/\pr.length=7 ∧
 ∀ (H':Hp) (t:Addr) (ts:List Addr) (sts:List Sk) (R:Nat->Nat->Int),Same H H'->H' t=some (.tup (ts.map V.ref))->TupsAt H' ts sts->Rest (fun i st=>price es i pr st) es.length cs.length (ways es cs) R->Told es cs pr R 0 0 sts->sts.length<=es.length+cs.length->Q (.ref t) H'
theorem scFC:FnScope ["elder","copy","prices","rest","steps","i","j","way"] ["elder","copy","prices"] (defScope sFC):=⟨rfl,rfl,rfl,by decide +kernel,rfl,by decide +kernel,by decide +kernel⟩
theorem ok_fc {f gR gC:Addr} {fd dR dC:FuncData} (F:Fun K "first_cheapest" "first_cheapest" sFC f fd) (DR:Dfn K mg "rest_table" sRtab gR dR ["elder","copy","prices"]) (GR:FnOk P w K mg base CX0 3 gR dR ["elder","copy","prices"] (spRtab K)) (DC:Dfn K mg "cheapest_ways" sCW gC dC ["elder","copy","prices","rest","i","j"]) (GC:FnOk P w K mg base CX0 3 gC dC ["elder","copy","prices","rest","i","j"] (spCW K)) (mlen:mg "len" = none) (mtup:mg "tuple" = none):FnOk P w K mg base CX0 4 f fd ["elder","copy","prices"] (spFC K):=by
 refine F.ok scFC (fun vs H Q E h=>?_) (fun cdv A outer s H vs Q E hr h=>?_)
 ·obtain ⟨p,q,r,es,cs,pr,rfl,_⟩:=h
  rfl
 ·obtain ⟨p,q0,r0,es,cs,pr,rfl,hp,hc,hpr,hge,hgc,hel,hcl,h7,q⟩:=h
  refine ⟨_,pss_cons (ps_set (i:=3) scFC.nd rfl (Or.inl rfl) (pe_call GR hr (by rfl) DR.at_ DR.fn.kp DR.bn .nil pass0 (pa_cons (pv 0) (pa_cons (pv 1) (pa_cons (pv 2) pa_nil)))))
   (pss_cons (ps_set (i:=4) scFC.nd rfl (Or.inl rfl) (pe_lst pa_nil))
   (pss_cons (ps_set (i:=5) scFC.nd rfl (Or.inl rfl) pe_int)
   (pss_cons (ps_set (i:=6) scFC.nd rfl (Or.inl rfl) pe_int)
   (pss_cons (ps_while PassesOwn.never (pw_or (pt_cmpR op_lt (pv 5) (pe_callB call_len_seq (by rfl) mlen PySem.boot_len (pa_cons (pv 0) pa_nil)) (nomark _)) (pw_or1 (pt_cmpR op_lt (pv 6) (pe_callB call_len_seq (by rfl) mlen PySem.boot_len (pa_cons (pv 1) pa_nil)) (nomark _)))).pt
    (pss_cons (ps_set (i:=7) scFC.nd rfl (Or.inl rfl) (pe_ix ix_list (pe_call GC hr (by rfl) DC.at_ DC.fn.kp DC.bn .nil pass0 (pa_cons (pv 0) (pa_cons (pv 1) (pa_cons (pv 2) (pa_cons (pv 3) (pa_cons (pv 5) (pa_cons (pv 6) pa_nil))))))) pe_int (fun _ _=>rfl)))
    (pss_cons (ps_expr (pe_bm PySem.F.plainAttrs_list PySem.F.slot_list_append PySem.F.type_list_append mt_append (pv 4) (pa_cons (pe_ix ix_tup (pv 7) pe_int (fun _ _=>rfl)) pa_nil)))
    (pss_cons (ps_set (i:=5) scFC.nd rfl (Or.inl rfl) (pe_ix ix_tup (pv 7) pe_int (fun _ _=>rfl)))
    (pss_one (ps_set (i:=6) scFC.nd rfl (Or.inl rfl) (pe_ix ix_tup (pv 7) pe_int (fun _ _=>rfl))))))))
   (pss_one (ps_ret (pe_callTy call_tuple_of (by rfl) mtup boot_tuple (pa_cons (pv 4) pa_nil)))))))),?_⟩
  have hle:(es.map V.str).length=es.length:=List.length_map ..
  have hlc:(cs.map V.str).length=cs.length:=List.length_map ..
  refine ⟨_,rfl,_,rfl,_,rfl,p,q0,r0,es,cs,pr,rfl,hp,hc,hpr,hge,hgc,hel,hcl,h7,fun H1 t ps R S1 ht htl hrow hR=>?_⟩
  have hN:NumsAt H1 t ps es.length cs.length R:=⟨ht,htl,hrow⟩
  refine ⟨Nat.zero_le _,fun l hl=>?_⟩
  have S2:=same_upd (o:=.lst []) hl
  obtain ⟨W,hW⟩:∃ W:Nat->L2.St->Hp->Prop,W=fun k σ H3=>∃ (i j:Nat) (ts:List Addr) (sts:List Sk) (v7:Option V),k=(es.length - i)+(cs.length - j)/\i<=es.length/\j<=cs.length/\σ=[some (.ref p),some (.ref q0),some (.ref r0),some (.ref t),some (.ref l),some (.int ((i:Nat):Int)),some (.int ((j:Nat):Int)),v7]/\H3 l=some (.lst (ts.map V.ref))/\TupsAt H3 ts sts/\sts.length<=i+j/\(∀ r,Told es cs pr R i j r->Told es cs pr R 0 0 (sts++r))/\Same H1 H3:=⟨_,rfl⟩
  refine ⟨W,⟨(es.length - 0)+(cs.length - 0),by rw [hW];exact ⟨0,0,[],[],none,rfl,Nat.zero_le _,Nat.zero_le _,rfl,upd_same,TupsAt.nil,Nat.le_refl _,fun r h=>h,S2⟩⟩,?_⟩
  intro k σ H3 hk
  rw [hW] at hk
  obtain ⟨i,j,ts,sts,v7,rfl,hi,hj,rfl,h3,hT,hsl,hto,S3⟩:=hk
  have S13:=S1.trans S3
  by_cases hn:i=es.length/\j=cs.length
  ·obtain ⟨rfl,rfl⟩:=hn
   refine ⟨_,rfl,_,rfl,p,_,rfl,.inr (sameT S13 hp),_,_,rfl,rfl,_,rfl,iteK (by rw [hle];omega) ?_⟩
   refine ⟨_,rfl,_,rfl,q0,_,rfl,.inr (sameT S13 hc),_,_,rfl,rfl,_,rfl,iteK (by rw [hlc];omega) ?_⟩
   refine ⟨_,rfl,l,_,rfl,.inl ⟨SqL.of h3,fun t9 ht9=>?_⟩⟩
   have S9:=same_upd (o:=.tup (ts.map V.ref)) ht9
   have ht0:=hto [] ⟨rfl,rfl⟩
   rw [List.append_nil] at ht0
   exact q _ t9 ts sts R (S13.trans S9) upd_same (hT.mono S9) hR ht0 hsl
  ·refine (fun hG=>⟨_,rfl,_,rfl,p,_,rfl,.inr (sameT S13 hp),_,_,rfl,rfl,_,rfl,ite2 (fun _=>iteT hG) (fun h=>⟨_,rfl,_,rfl,q0,_,rfl,.inr (sameT S13 hc),_,_,rfl,rfl,_,rfl,iteY (by
    have h:¬ (((i:Nat):Int) < ((es.map V.str).length:Int)):=fun z=>h (decide_eq_true z)
    rw [hle] at h
    rw [hlc]
    omega) hG⟩)⟩) ?_
   refine ⟨fun σ' H'=>∃ m',m' < (es.length - i)+(cs.length - j)/\W m' σ' H',fun _ _ z=>z,?_⟩
   refine ⟨_,rfl,_,rfl,_,rfl,_,rfl,_,rfl,_,rfl,p,q0,r0,t,es,cs,pr,ps,R,i,j,rfl,sameT S13 hp,sameT S13 hc,sameT S13 hpr,hge,hgc,hel,hcl,h7,hN.mono S3,hi,hj,fun H4 lc as S4 hlc' hW4=>?_⟩
   obtain ⟨x0,hx0,ex0⟩:=hR.eq i j hi hj hn
   have hcm:x0 ∈ cheap es cs pr R i j:=List.mem_filter.mpr ⟨hx0,decide_eq_true ex0.symm⟩
   obtain ⟨x,xs,hxs⟩:∃ x xs,cheap es cs pr R i j=x :: xs:=by
    cases hch:cheap es cs pr R i j with
    | nil=>rw [hch] at hcm;cases hcm
    | cons x xs=>exact ⟨x,xs,rfl⟩
   have hxm:x ∈ cheap es cs pr R i j:=by rw [hxs];exact List.mem_cons_self ..
   have hxw:=(cheap_in hxm).1
   have hok:=ways_ok (i:=i) (j:=j) (es:=es) hgc (by omega) x hxw
   have hfw:=ways_fwd es cs i j hi hj x hxw
   rw [hxs] at hW4
   obtain ⟨a,as',rfl⟩:∃ a as',as=a :: as':=by
    cases as with
    | nil=>have:=hW4.len;simp at this
    | cons a as'=>exact ⟨a,as',rfl⟩
   obtain ⟨st,ha,hst⟩:=hW4.item 0 a x rfl rfl
   have h4:=S4 _ _ h3
   refine ⟨lc,_,_,_,rfl,rfl,SqL.of hlc',atI_nat (j:=0) rfl,?_⟩
   refine ⟨_,rfl,.inl ⟨rfl,_,SqL.of h4⟩,_,rfl,a,_,_,_,rfl,rfl,SqT.of ha,atI_nat (j:=0) rfl,l,_,_,rfl,rfl,h4,(by rw [List.length_map,hT.len];exact fewer (by omega)),?_⟩
   have keep:∀ {b:Addr} {ys zs:List V},H4 b=some (.tup ys)->upd H4 l (.lst zs) b=some (.tup ys):=fun {b ys zs} h=>by
    rw [upd_ne (ne_of h h4 (by intro z;cases z))];exact h
   refine ⟨_,rfl,a,_,_,_,rfl,rfl,SqT.of (keep ha),atI_nat (j:=1) rfl,?_⟩
   refine ⟨_,rfl,a,_,_,_,rfl,rfl,SqT.of (keep ha),atI_nat (j:=2) rfl,?_⟩
   refine ⟨(es.length - x.2.1)+(cs.length - x.2.2),by omega,?_⟩
   rw [hW]
   refine ⟨x.2.1,x.2.2,ts++[st],sts++[x.1],_,rfl,hfw.1,hfw.2.1,rfl,by rw [upd_same,List.map_append];rfl,((hT.mono S4).app (TupsAt.one hst hok)).set h4,by rw [List.length_append];show _+1<=_;omega,fun r hr'=>?_,same_to (S3.trans S4) hl⟩
   rw [List.append_assoc]
   exact hto _ ⟨x,by rw [hxs];rfl,rfl,hr'⟩
theorem drop_one {cs:List Str} {j:Nat} (h:j < cs.length):(cs.drop j).take 1=[gt cs j]:=by
 rw [List.drop_eq_getElem_cons h,List.take_succ_cons,List.take_zero]
 unfold gt
 rw [List.getElem?_eq_getElem h]
 rfl
theorem take_last {cs:List Str} {j:Nat} (h0:0 < j) (h:j<=cs.length):(cs.take j).getLast?=some (gt cs (j - 1)):=by
 rw [List.getLast?_eq_getElem?,List.length_take,Nat.min_eq_left h,List.getElem?_take_of_lt (by omega)]
 exact gt_of (by omega)
theorem way_after {es cs:List Str} {i j:Nat} {x:Way} (h:x ∈ ways es cs i j) (hi:i<=es.length) (hj:j<=cs.length):after es i (cs.take j).getLast? x.1=some (x.2.1,(cs.drop j).take (x.2.2 - j)):=by
 have e1:j+1 - j=1:=by omega
 have e2:j+2 - j=2:=by omega
 unfold ways at h
 rcases List.mem_append.mp h with h | h
 ·rcases List.mem_append.mp h with h | h
  ·rcases List.mem_append.mp h with h | h
   ·rcases List.mem_append.mp h with h | h
    ·rcases List.mem_append.mp h with h | h
     ·unfold w1 at h
      split at h
      ·rename_i hij
       rw [List.mem_singleton.mp h]
       dsimp only
       rw [e1,drop_one hij.2]
       split
       ·rename_i he
        unfold after
        rw [if_pos (show fitsB es i _ .keep=true from decide_eq_true hij.1)]
        show some (i+1,[gt es i])=_
        rw [he]
       ·rename_i he
        unfold after
        rw [if_pos]
        ·rfl
        ·show (decide (i < es.length) && !decide (es[i]?=some (gt cs j)))=true
         rw [decide_eq_true hij.1,some_dec hij.1,decide_eq_false he]
         rfl
      ·cases h
     ·unfold w2 at h
      split at h
      ·rename_i hij
       rw [List.mem_singleton.mp h]
       dsimp only
       rw [Nat.sub_self,List.take_zero]
       unfold after
       rw [if_pos (show fitsB es i _ .lose=true from decide_eq_true hij)]
       rfl
      ·cases h
    ·unfold w3 at h
     split at h
     ·rename_i hij
      rw [List.mem_singleton.mp h]
      dsimp only
      rw [e1,drop_one hij]
      unfold after
      rw [if_pos (show fitsB es i _ (.add _)=true from rfl)]
      rfl
     ·cases h
   ·unfold w4 at h
    split at h
    ·rename_i hij
     rw [List.mem_singleton.mp h]
     dsimp only
     rw [e1,drop_one hij.2.1,take_last hij.1 hj]
     unfold after
     rw [if_pos (show fitsB es i (some _) .twice=true from rfl)]
     show some (i+0,[gt cs (j - 1)])=_
     rw [hij.2.2]
     rfl
    ·cases h
  ·unfold w5 at h
   split at h
   ·rename_i hs
    rw [List.mem_singleton.mp h]
    dsimp only
    rw [e2]
    unfold swapW at hs
    split at hs
    ·rename_i h1
     split at hs
     ·cases hs
     ·rename_i h2
      rw [of_decide_eq_true hs]
      unfold after
      rw [if_pos]
      ·rfl
      ·show (decide (i+1 < es.length) && !decide (es[i]?=es[i+1]?))=true
       rw [decide_eq_true h1,gt_of h1,some_dec (by omega:i < es.length),decide_eq_false h2]
       rfl
    ·cases hs
   ·cases h
 ·unfold w6 at h
  obtain ⟨k,hk,rfl⟩:=List.mem_map.mp h
  dsimp only
  rw [Nat.sub_self,List.take_zero]
  have hk':=skips_in hk
  unfold after
  rw [if_pos]
  ·rfl
  ·show skipB es i k=true
   unfold skips at hk
   rw [if_neg (by omega)] at hk
   obtain ⟨n,hn,rfl⟩:=List.mem_map.mp hk
   have hn2:=of_decide_eq_true (List.mem_filter.mp hn).2
   unfold skipB
   rw [decide_eq_true ⟨hk'.2.2,hk'.2.1⟩,Bool.true_and]
   refine decide_eq_true ?_
   rw [gt_of (show i+(n+1) - 1 < es.length by omega),gt_of (show i - 1 < es.length by omega),<-hn2]
   rfl
theorem bits_cell {ns:List Int} (hb:∀ m ∈ ns,Builtin.Int.intBits m<=1048576) (k:Int):Builtin.Int.intBits (cellD ns k)<=1048576:=by
 unfold cellD
 cases e:ns[k.toNat]? with
 | none=>show Builtin.Int.intBits 0<=_;decide
 | some n=>exact hb n (List.mem_of_getElem? e)
theorem letter_at (r:Int):∃ c,atI (letters.cps.toList) (r % 26)=some c/\Al c:=by
 have h0:0<=r % 26:=Int.emod_nonneg _ (by decide)
 have h1:r % 26 < 26:=Int.emod_lt_of_pos _ (by decide)
 have e:r % 26=((r % 26).toNat:Int):=by omega
 refine ⟨97+(r % 26).toNat,?_,al_mod _ (by omega)⟩
 rw [e]
 refine atI_nat ?_
 rw [letters_cps,List.getElem?_map,List.getElem?_range (by omega)]
 rfl
def Lets (z:Str) (n:Nat):Prop:=z.length=n/\∀ c ∈ z.cps.toList,Al c
theorem lets_app {z:Str} {n c:Nat} (h:Lets z n) (hc:Al c):Lets (z++⟨#[c]⟩) (n+1):=by
 refine ⟨by rw [app_len,h.1];rfl,fun d hd=>?_⟩
 rw [app_list] at hd
 rcases List.mem_append.mp hd with hd | hd
 ·exact h.2 d hd
 ·have:d=c:=by simpa using hd
  rw [this];exact hc
theorem lets_good {z:Str} {n:Nat} (h:Lets z n) (h1:1<=n) (h2:n<=12):Good z:=⟨by rw [h.1];exact h1,by rw [h.1];exact h2,h.2⟩
def mixD (c k:Int):Int:=(c * 2+1) * (k * k * 9176023+84127918273645463728191) % 170141183460469231731687303715884105727
def drawD (c k m:Int):Int:=mixD c k * (mixD c k+5) % 170141183460469231731687303715884105727 / 7 % m
theorem draw_lo (c k:Int) {m:Int} (h:0 < m):0<=drawD c k m:=Int.emod_nonneg _ (by omega)
theorem draw_hi (c k:Int) {m:Int} (h:0 < m):drawD c k m < m:=Int.emod_lt_of_pos _ h
def spDraw:Sp:=fun vs H Q _=>∃ c k m:Int,vs=[.int c,.int k,.int m]/\Builtin.Int.intBits c<=1048576/\0<=k/\k<=100000/\0 < m/\Q (.int (drawD c k m)) H
theorem scDraw:FnScope ["cell","k","many","prime","mixed"] ["cell","k","many"] (defScope sDraw):=⟨rfl,rfl,rfl,by decide +kernel,rfl,by decide +kernel,by decide +kernel⟩
theorem ok_draw {f:Addr} {fd:FuncData} (F:Fun K "_law_draw" "_law_draw" sDraw f fd):FnOk P w K mg base CX0 1 f fd ["cell","k","many"] spDraw:=by
 refine Fun.okR F scDraw (fun vs H Q E h=>?_) (fun cdv A outer s H vs Q Q2 E hr h hq=>?_)
 ·obtain ⟨c,k,m,rfl,_⟩:=h
  rfl
 ·obtain ⟨c,k,m,rfl,hb,hk0,hk1,hm,q⟩:=h
  refine ⟨_,pss_cons (ps_set (i:=3) scDraw.nd rfl (Or.inl rfl) pe_int)
   (pss_cons (ps_set (i:=4) scDraw.nd rfl (Or.inl rfl) (pe_op op_mod (pe_op op_mulB (pe_op op_add (pe_op op_mulB (pv 0) pe_int) pe_int) (pe_op op_add (pe_op op_mulB (pe_op op_mulB (pv 1) (pv 1)) pe_int) pe_int)) (pv 3)))
   (pss_one (ps_ret (pe_op op_mod (pe_op op_fdiv (pe_op op_mod (pe_op op_mulB (pv 4) (pe_op op_add (pv 4) pe_int)) (pv 3)) pe_int) (pv 2))))),?_⟩
  have p0:(0:Int) < 170141183460469231731687303715884105727:=by decide
  have bk:Builtin.Int.intBits k<=20:=intBits_le_iff.mpr (by omega)
  have b2:Builtin.Int.intBits 2<=2:=by decide +kernel
  have b1:Builtin.Int.intBits 1<=1:=by decide +kernel
  have b9:Builtin.Int.intBits 9176023<=24:=by decide +kernel
  have b8:Builtin.Int.intBits 84127918273645463728191<=77:=by decide +kernel
  have b5:Builtin.Int.intBits 5<=3:=by decide +kernel
  have bA:=intBits_add_le (intBits_mul_le hb b2) b1
  have bB:=intBits_add_le (intBits_mul_le (intBits_mul_le bk bk) b9) b8
  have x0:0<=mixD c k:=Int.emod_nonneg _ (by decide)
  have x1:mixD c k < 170141183460469231731687303715884105727:=Int.emod_lt_of_pos _ p0
  have bx:Builtin.Int.intBits (mixD c k)<=127:=intBits_le_iff.mpr (by
   have:(2:Nat) ^ 127=170141183460469231731687303715884105728:=by decide
   rw [this];omega)
  have by5:=intBits_add_le bx b5
  refine ⟨_,rfl,_,_,rfl,rfl,.of_le hb b2 (by decide),_,_,rfl,rfl,_,rfl,_,rfl,_,_,rfl,rfl,.of_le bk bk (by decide),_,_,rfl,rfl,.of_le (intBits_mul_le bk bk) b9 (by decide),_,_,rfl,rfl,_,_,rfl,rfl,.of_le bA bB (by decide),_,rfl,_,_,rfl,rfl,p0,?_⟩
  refine ⟨_,rfl,_,rfl,_,_,rfl,rfl,_,_,rfl,rfl,.of_le bx by5 (by decide),_,rfl,_,_,rfl,rfl,p0,_,_,rfl,rfl,⟨by decide,by decide⟩,_,rfl,_,_,rfl,rfl,hm,hq _ _ (Rst.same (Same.refl H) q)⟩
theorem at4 (c k:Int):∃ n:Nat,atI [V.int 1,.int 2,.int 3,.int 12] (drawD c k 4)=some (.int ((n:Nat):Int))/\1<=n/\n<=12:=by
 have h0:=draw_lo c k (m:=4) (by decide)
 have h1:=draw_hi c k (m:=4) (by decide)
 generalize drawD c k 4=d at h0 h1
 obtain ⟨j,rfl⟩:∃ j:Nat,d=(j:Int):=⟨d.toNat,by omega⟩
 have hj:j < 4:=by omega
 match j,hj with
 | 0,_=>exact ⟨1,rfl,by decide,by decide⟩
 | 1,_=>exact ⟨2,rfl,by decide,by decide⟩
 | 2,_=>exact ⟨3,rfl,by decide,by decide⟩
 | 3,_=>exact ⟨12,rfl,by decide,by decide⟩
def spWordBy:Sp:=fun vs H Q _=>∃ c k:Int,vs=[.int c,.int k]/\Builtin.Int.intBits c<=1048576/\0<=k/\k<=100/\∀ z,Good z->Q (.str z) H
theorem scWordBy:FnScope ["cell","k","word","j"] ["cell","k"] (defScope sWordBy):=⟨rfl,rfl,rfl,by decide +kernel,rfl,by decide +kernel,by decide +kernel⟩
theorem ok_wordby {f gD:Addr} {fd dD:FuncData} (F:Fun K "_law_word_by" "_law_word_by" sWordBy f fd) (DD:Dfn K mg "_law_draw" sDraw gD dD ["cell","k","many"]) (mrange:mg "range" = none):FnOk P w K mg base CX0 2 f fd ["cell","k"] spWordBy:=by
 have GD:FnOk P w K mg base CX0 1 gD dD ["cell","k","many"] spDraw:=ok_draw DD.fn
 refine Fun.okR F scWordBy (fun vs H Q E h=>?_) (fun cdv A outer s H vs Q Q2 E hr h hq=>?_)
 ·obtain ⟨c,k,rfl,_⟩:=h
  rfl
 ·obtain ⟨c,k,rfl,hb,hk0,hk1,q⟩:=h
  refine ⟨_,pss_cons (ps_set (i:=2) scWordBy.nd rfl (Or.inl rfl) pe_str)
   (pss_cons (ps_for PassesOwn.never rfl (pi_range1 (by rfl) mrange (pa_cons (pe_ix ix_list (pe_lst (pa_cons pe_int (pa_cons pe_int (pa_cons pe_int (pa_cons pe_int pa_nil))))) (pe_call GD hr (by rfl) DD.at_ DD.fn.kp DD.bn .nil pass0 (pa_cons (pv 0) (pa_cons (pe_op op_add (pe_op op_mul pe_int (pv 1)) pe_int) (pa_cons pe_int pa_nil)))) (fun _ _=>rfl)) pa_nil)) (pg_name (i:=3) scWordBy.nd rfl (Or.inl rfl))
    (pss_one (ps_set (i:=2) scWordBy.nd rfl (Or.inl rfl) (pe_op op_add_str (pv 2) (pe_ix ix_str pe_str (pe_call GD hr (by rfl) DD.at_ DD.fn.kp DD.bn .nil pass0 (pa_cons (pv 0) (pa_cons (pe_op op_add (pe_op op_add pe_int (pe_op op_mul pe_int (pv 1))) (pv 3)) (pa_cons pe_int pa_nil)))) (fun _ _=>rfl))))))
   (pss_one (ps_ret (pv 2)))),?_⟩
  obtain ⟨n,hn,n1,n2⟩:=at4 c (10 * k+1)
  refine ⟨few (by show 4<=_;omega),fun l hl=>?_⟩
  refine ⟨_,rfl,_,rfl,_,_,rfl,rfl,.inl ⟨by decide,by decide⟩,_,_,rfl,rfl,_,_,_,rfl,hb,(by show (0:Int)<=10 * k+1;omega),(by show 10 * k+1<=100000;omega),(by show (0:Int) < 4;decide),l,_,_,_,rfl,rfl,SqL.of upd_same,hn,((n:Nat):Int),rfl,by omega,by omega,?_⟩
  rw [Int.toNat_natCast]
  refine for_range (n:=n) (fun i σ H2=>∃ (z:Str) (v3:Option V),σ=[some (.int c),some (.int k),some (.str z),v3]/\H2=upd H l (.lst [.int 1,.int 2,.int 3,.int 12])/\Lets z i)
   ⟨Str.ofString "",none,rfl,rfl,by decide +kernel,fun c hc=>absurd hc (by rw [show (Str.ofString "").cps.toList=[] from by decide +kernel];exact List.not_mem_nil)⟩ ?_ ?_
  ·rintro i σ H2 hi ⟨z,v3,rfl,rfl,hz⟩
   obtain ⟨d,hd,ad⟩:=letter_at (mixD c (300+20 * k+(0+((i:Nat):Int))) * (mixD c (300+20 * k+(0+((i:Nat):Int)))+5) % 170141183460469231731687303715884105727 / 7)
   refine ⟨_,rfl,_,rfl,_,rfl,_,_,rfl,rfl,.inl ⟨by decide,by decide⟩,_,_,rfl,rfl,_,rfl,_,_,rfl,rfl,_,_,_,rfl,hb,(by show (0:Int)<=300+20 * k+(0+((i:Nat):Int));omega),(by show 300+20 * k+(0+((i:Nat):Int))<=100000;omega),(by show (0:Int) < 26;decide),letters,_,d,rfl,rfl,(by decide +kernel),hd,_,_,rfl,rfl,few (by rw [hz.1];show _+1<=_;omega),?_⟩
   exact ⟨_,_,rfl,rfl,lets_app hz ad⟩
  ·rintro σ H2 ⟨z,v3,rfl,rfl,hz⟩
   exact ⟨_,rfl,hq _ _ (Rst.same (same_upd hl) (q _ (lets_good hz n1 n2)))⟩
theorem turned_good {z:Str} (g:Good z) {j d:Nat} (hj:j < z.length) (ad:Al d):Good (((⟨(z.cps.toList.take j).toArray⟩:Str)++(⟨#[d]⟩:Str))++(⟨(z.cps.toList.drop (j+1)).toArray⟩:Str)):=by
 have hl:=g.lo
 have hh:=g.hi
 have hz:=clen z
 have l1:(⟨#[d]⟩:Str).length=1:=rfl
 refine ⟨?_,?_,fun c hc=>?_⟩
 ·rw [app_len,app_len,l1]
  omega
 ·rw [app_len,app_len,l1,mk_len,mk_len,List.length_take,List.length_drop]
  omega
 ·rw [app_list,app_list,mk_list,mk_list] at hc
  rcases List.mem_append.mp hc with hc | hc
  ·rcases List.mem_append.mp hc with hc | hc
   ·exact g.al c (List.mem_of_mem_take hc)
   ·have e:c=d:=by simpa using hc
    rw [e];exact ad
  ·exact g.al c (List.mem_of_mem_drop hc)
def spPool:Sp:=fun vs H Q _=>∃ c:Int,vs=[.int c]/\Builtin.Int.intBits c<=1048576/\∀ (p:Addr) (ws:List Str),H p=none->ws.length=5->(∀ z ∈ ws,Good z)->Q (.ref p) (upd H p (.lst (ws.map V.str)))
theorem scPool:FnScope ["cell","pool","at","letter"] ["cell"] (defScope sPool):=⟨rfl,rfl,rfl,by decide +kernel,rfl,by decide +kernel,by decide +kernel⟩
theorem nd_kc:(["k","cell"]:List Str).Nodup:=by decide +kernel
theorem ok_pool {f gD gW:Addr} {fd dD dW:FuncData} (F:Fun K "_law_pool" "_law_pool" sPool f fd) (DD:Dfn K mg "_law_draw" sDraw gD dD ["cell","k","many"]) (DW:Dfn K mg "_law_word_by" sWordBy gW dW ["cell","k"]) (mrange:mg "range" = none) (mlen:mg "len" = none):FnOk P w K mg base CX0 3 f fd ["cell"] spPool:=by
 have GD:FnOk P w K mg base CX0 2 gD dD ["cell","k","many"] spDraw:=(ok_draw DD.fn).mono (by decide)
 have GW:FnOk P w K mg base CX0 2 gW dW ["cell","k"] spWordBy:=ok_wordby DW.fn DD mrange
 refine Fun.okR F scPool (fun vs H Q E h=>?_) (fun cdv A outer s H vs Q Q2 E hr h hq=>?_)
 ·obtain ⟨c,rfl,_⟩:=h
  rfl
 ·obtain ⟨c,rfl,hb,q⟩:=h
  refine ⟨_,pss_cons (ps_setC (i:=1) (Nc:=["k","cell"]) (mp:=[none,some 0]) rfl scPool.nd rfl rfl (CompOk.of (by rfl)) (pi_range1 (by rfl) mrange (pa_cons pe_int pa_nil)) (fun cl C s H fp=>⟨pg_name (i:=0) nd_kc rfl (Or.inl rfl),pts_nil,pe_call GW hr (by rfl) DW.at_ DW.fn.kp DW.bn .nil pass0 (pa_cons (pv 1) (pa_cons (pv 0) pa_nil))⟩))
   (pss_cons (ps_set (i:=2) scPool.nd rfl (Or.inl rfl) (pe_call GD hr (by rfl) DD.at_ DD.fn.kp DD.bn .nil pass0 (pa_cons (pv 0) (pa_cons pe_int (pa_cons (pe_callB call_len_str (by rfl) mlen PySem.boot_len (pa_cons (pe_ix ix_list (pv 1) pe_int (fun _ _=>rfl)) pa_nil)) pa_nil)))))
   (pss_cons (ps_set (i:=3) scPool.nd rfl (Or.inl rfl) (pe_ix ix_str pe_str (pe_call GD hr (by rfl) DD.at_ DD.fn.kp DD.bn .nil pass0 (pa_cons (pv 0) (pa_cons pe_int (pa_cons pe_int pa_nil)))) (fun _ _=>rfl)))
   (pss_one (ps_ret (pe_op op_cat (pv 1) (pe_lst (pa_cons (pe_op op_add_str (pe_op op_add_str (pe_slice sl_str (pe_ix ix_list (pv 1) pe_int (fun _ _=>rfl)) po_none (po_some (pv 2))) (pv 3)) (pe_slice sl_str (pe_ix ix_list (pv 1) pe_int (fun _ _=>rfl)) (po_some (pe_op op_add (pv 2) pe_int)) po_none)) pa_nil))))))),?_⟩
  refine ⟨4,rfl,by decide,by decide,?_⟩
  refine comp_grow (as:=List.range 4) (v:=fun k=>.int (0+((k:Nat):Int))) (fun i acc H'=>H'=H/\∃ ws:List Str,acc=ws.map V.str/\ws.length=i/\∀ z ∈ ws,Good z) (fun i acc H' _ ⟨e,_⟩=>by rw [e];exact src_range 0 4 H) (by rw [List.length_range];exact few (by omega))
   ⟨rfl,[],rfl,rfl,fun _ z=>nomatch z⟩ (fun i acc H' ⟨_,ws,e,hl,_⟩=>by rw [e,List.length_map,hl]) ?_ ?_
  ·rintro i k acc H' hk ⟨rfl,ws,rfl,hl,hw⟩ kk hkk
   have hk':k < 4:=List.mem_range.mp (List.mem_of_getElem? hk)
   refine ⟨_,rfl,_,rfl,_,_,rfl,hb,(by show (0:Int)<=0+((k:Nat):Int);omega),(by show 0+((k:Nat):Int)<=100;omega),fun z hz=>hkk _ _ ⟨rfl,ws++[z],by rw [List.map_append];rfl,by rw [List.length_append,hl];rfl,fun y hy=>?_⟩⟩
   rcases List.mem_append.mp hy with hy | hy
   ·exact hw y hy
   ·rw [List.mem_singleton.mp hy];exact hz
  ·rintro acc H' ⟨rfl,ws,rfl,hl,hw⟩ D hD
   rw [List.length_range] at hl
   have SD:=same_upd (o:=.lst (ws.map V.str)) hD
   obtain ⟨z,rs,rfl⟩:∃ z rs,ws=z :: rs:=by
    cases ws with
    | nil=>simp at hl
    | cons z rs=>exact ⟨z,rs,rfl⟩
   have g:Good z:=hw z (List.mem_cons_self ..)
   have glo:=g.lo
   have ghi:=g.hi
   have hm:(0:Int) < (z.length:Int):=by omega
   have h0:=draw_lo c 61 hm
   have h1:=draw_hi c 61 hm
   obtain ⟨j,hj⟩:∃ j:Nat,drawD c 61 (z.length:Int)=(j:Int):=⟨(drawD c 61 (z.length:Int)).toNat,by omega⟩
   obtain ⟨d,hd,ad⟩:=letter_at (mixD c 62 * (mixD c 62+5) % 170141183460469231731687303715884105727 / 7)
   have c1:cutL z.cps.toList none (some (drawD c 61 (z.length:Int)))=z.cps.toList.take j:=by rw [hj];exact cutL_take _ j
   have c2:cutL z.cps.toList (some (drawD c 61 (z.length:Int)+1)) none=z.cps.toList.drop (j+1):=by
    rw [hj,show ((j:Int)+1)=((j+1:Nat):Int) by omega];exact cutL_drop _ _
   have hz:=clen z
   have l1:(⟨#[d]⟩:Str).length=1:=rfl
   have s1:(⟨(cutL z.cps.toList none (some (drawD c 61 (z.length:Int)))).toArray⟩:Str).length+(⟨#[d]⟩:Str).length<=sizeLine:=by
    rw [c1,l1,mk_len,List.length_take]
    exact few (by omega)
   have s2:((⟨(cutL z.cps.toList none (some (drawD c 61 (z.length:Int)))).toArray⟩:Str)++(⟨#[d]⟩:Str)).length+(⟨(cutL z.cps.toList (some (drawD c 61 (z.length:Int)+1)) none).toArray⟩:Str).length<=sizeLine:=by
    rw [app_len,c1,c2,l1,mk_len,mk_len,List.length_take,List.length_drop]
    exact few (by omega)
   have s3:Good (((⟨(cutL z.cps.toList none (some (drawD c 61 (z.length:Int)))).toArray⟩:Str)++(⟨#[d]⟩:Str))++(⟨(cutL z.cps.toList (some (drawD c 61 (z.length:Int)+1)) none).toArray⟩:Str)):=by
    rw [c1,c2]
    exact turned_good g (by omega) ad
   have uD:upd H' D (.lst ((z :: rs).map V.str)) D=some (.lst ((z :: rs).map V.str)):=upd_same
   have a0:atI ((z :: rs).map V.str) 0=some (.str z):=atI_nat (j:=0) rfl
   generalize upd H' D (.lst ((z :: rs).map V.str))=H1 at SD uD
   refine ⟨_,rfl,_,rfl,D,_,_,_,rfl,rfl,SqL.of uD,a0,z,rfl,g.small,_,_,_,rfl,hb,(by show (0:Int)<=61;decide),(by show (61:Int)<=100000;decide),hm,?_⟩
   refine ⟨_,rfl,_,_,_,rfl,hb,(by show (0:Int)<=62;decide),(by show (62:Int)<=100000;decide),(by show (0:Int) < 26;decide),letters,_,d,rfl,rfl,(by decide +kernel),hd,?_⟩
   refine ⟨_,rfl,_,rfl,D,_,_,_,rfl,rfl,SqL.of uD,a0,_,rfl,_,rfl,z,rfl,g.small,_,rfl,_,_,rfl,rfl,s1,_,rfl,D,_,_,_,rfl,rfl,SqL.of uD,a0,_,rfl,_,_,rfl,rfl,_,rfl,z,rfl,g.small,_,_,rfl,rfl,s2,few (by show 1<=_;omega),fun l2 hl2=>?_⟩
   have S2:=fun y=>same_upd (o:=.lst [.str y]) hl2
   refine ⟨D,l2,_,_,rfl,rfl,S2 _ _ _ uD,upd_same,(by rw [List.length_map,hl];exact few (by show 4+1<=_;omega)),fun l3 hl3=>?_⟩
   have S3:=fun xs=>same_upd (o:=.lst xs) hl3
   have:=q l3 ((z :: rs)++[_]) (SD.free ((S2 _).free hl3)) (by rw [List.length_append,hl];rfl) (fun y hy=>(List.mem_append.mp hy).elim (hw y) fun hy=>by rw [List.mem_singleton.mp hy];exact s3)
   exact hq _ _ (Rst.one ((SD.trans (S2 _)).trans (S3 _)) (SD.free ((S2 _).free hl3)) upd_same trivial (by rw [List.map_append] at this;exact this))
theorem FnOk.or2 {k:Nat} {f:Addr} {fd:FuncData} {ps:List Str} {sp1 sp2 sp:Sp} (F1:FnOk P w K mg base CX0 k f fd ps sp1) (F2:FnOk P w K mg base CX0 k f fd ps sp2) (h:∀ vs H Q E,sp vs H Q E->sp1 vs H Q E\/sp2 vs H Q E):FnOk P w K mg base CX0 k f fd ps sp:=
 ⟨fun vs H Q E hs=>(h vs H Q E hs).elim (F1.len vs H Q E) (F2.len vs H Q E),fun A outer s H args us vs Q E hr he hb hv hs=>(h vs H Q E hs).elim (fun z=>F1.run A outer s H args us vs Q E hr he hb hv z) (fun z=>F2.run A outer s H args us vs Q E hr he hb hv z)⟩
def SameV (H:Hp):Nat->V->V->Prop
 | 0,x,y=>(∃ z,x=.str z/\y=.str z)\/(∃ n,x=.int n/\y=.int n)\/(x=.non/\y=.non)
 | n+1,x,y=>SameV H n x y\/∃ (p r:Addr) (xs ys:List V),x=.ref p/\y=.ref r/\H p=some (.tup xs)/\H r=some (.tup ys)/\xs.length=ys.length/\ys.length<=100000/\∀ (i:Nat) (a b:V),xs[i]?=some a->ys[i]?=some b->SameV H n a b
def spSame (n:Nat):Sp:=fun vs H Q _=>∃ x y,vs=[x,y]/\SameV H n x y/\Q (.bl true) H
def spSameT (n:Nat):Sp:=fun vs H Q _=>∃ (p r:Addr) (xs ys:List V),vs=[.ref p,.ref r]/\H p=some (.tup xs)/\H r=some (.tup ys)/\xs.length=ys.length/\ys.length<=100000/\(∀ (i:Nat) (a b:V),xs[i]?=some a->ys[i]?=some b->SameV H n a b)/\Q (.bl true) H
theorem scSame:FnScope ["found","due"] ["found","due"] (defScope sSame):=⟨rfl,rfl,rfl,by decide +kernel,rfl,by decide +kernel,by decide +kernel⟩
structure Kinds (K:PySem.W.Frag):Prop where
 st:PySem.W.kitOne K (.type "str") (.type "tuple")=some false
 it:PySem.W.kitOne K (.type "int") (.type "tuple")=some false
 is_:PySem.W.kitOne K (.type "int") (.type "str")=some false
 ib:PySem.W.kitOne K (.type "int") (.type "bool")=some false
 nt:PySem.W.kitOne K (.type "NoneType") (.type "tuple")=some false
theorem nd_kfd:(["k","found","due"]:List Str).Nodup:=by decide +kernel
theorem ok_same0 {f:Addr} {fd:FuncData} (F:Fun K "_law_same" "_law_same" sSame f fd) (misi:mg "isinstance" = none) (mtup:mg "tuple" = none) (mstr:mg "str" = none) (mint:mg "int" = none) (mbool:mg "bool" = none) (kk:Kinds K):FnOk P w K mg base CX0 1 f fd ["found","due"] (spSame 0):=by
 refine Fun.okR F scSame (fun vs H Q E h=>?_) (fun cdv A outer s H vs Q Q2 E hr h hq=>?_)
 ·obtain ⟨x,y,rfl,_⟩:=h
  rfl
 ·obtain ⟨x,y,rfl,hs,q⟩:=h
  refine ⟨_,pss_cons (ps_if (pt_val (pe_callB call_isi (by rfl) misi boot_isinstance (pa_cons (pv 1) (pa_cons (pe_bltn (v:=.ty "tuple") (by rfl) mtup boot_tuple rfl) pa_nil)))) pss_never pss_nil)
   (pss_cons (ps_if (pt_cmpR op_isN (pv 1) pe_non (nomark _)) (pss_one (ps_ret (pe_cmpR op_isN (pv 0) pe_non (nomark _)))) pss_nil)
   (pss_cons (ps_if (pt_val (pe_callB call_isi (by rfl) misi boot_isinstance (pa_cons (pv 1) (pa_cons (pe_bltn (v:=.ty "str") (by rfl) mstr boot_str rfl) pa_nil)))) (pss_one (ps_ret (pe_and (pe_callB call_isi (by rfl) misi boot_isinstance (pa_cons (pv 0) (pa_cons (pe_bltn (v:=.ty "str") (by rfl) mstr boot_str rfl) pa_nil))) (pe_one (pe_cmpR op_eq (pv 0) (pv 1) (nomark _)))))) pss_nil)
   (pss_one (ps_ret (pe_and (pe_callB call_isi (by rfl) misi boot_isinstance (pa_cons (pv 0) (pa_cons (pe_bltn (v:=.ty "int") (by rfl) mint boot_int rfl) pa_nil))) (pe_and (pe_not (pe_callB call_isi (by rfl) misi boot_isinstance (pa_cons (pv 0) (pa_cons (pe_bltn (v:=.ty "bool") (by rfl) mbool boot_bool rfl) pa_nil)))) (pe_one (pe_cmpR op_eq (pv 0) (pv 1) (nomark _))))))))),?_⟩
  have go:Q2 (.bl true) H:=hq _ _ (Rst.same (Same.refl H) q)
  rcases hs with ⟨z,rfl,rfl⟩ | ⟨n,rfl,rfl⟩ | ⟨rfl,rfl⟩
  ·refine ⟨_,rfl,_,_,_,_,rfl,.str _,kk.st,_,rfl,iteF ?_⟩
   refine ⟨_,rfl,rfl,_,rfl,iteK (fun z=>nomatch z) ?_⟩
   refine ⟨_,rfl,_,_,_,_,rfl,.str _,kit_same _,_,rfl,iteT ?_⟩
   refine ⟨_,rfl,_,_,_,_,rfl,.str _,kit_same _,true,rfl,iteT ⟨_,rfl,_,rfl,rfl,?_⟩⟩
   rw [decide_eq_true rfl]
   exact go
  ·refine ⟨_,rfl,_,_,_,_,rfl,.int _,kk.it,_,rfl,iteF ?_⟩
   refine ⟨_,rfl,rfl,_,rfl,iteK (fun z=>nomatch z) ?_⟩
   refine ⟨_,rfl,_,_,_,_,rfl,.int _,kk.is_,_,rfl,iteF ?_⟩
   refine ⟨_,rfl,_,_,_,_,rfl,.int _,kit_same _,true,rfl,iteT ?_⟩
   refine ⟨_,rfl,_,_,_,_,rfl,.int _,kk.ib,false,rfl,true,rfl,iteT ⟨_,rfl,_,rfl,rfl,?_⟩⟩
   rw [decide_eq_true rfl]
   exact go
  ·refine ⟨_,rfl,_,_,_,_,rfl,.non,kk.nt,_,rfl,iteF ?_⟩
   refine ⟨_,rfl,rfl,_,rfl,iteY rfl ⟨_,rfl,rfl,?_⟩⟩
   rw [decide_eq_true rfl]
   exact go
theorem ok_sameT {n:Nat} {f:Addr} {fd:FuncData} (F:Fun K "_law_same" "_law_same" sSame f fd) (D:Dfn K mg "_law_same" sSame f fd ["found","due"]) (G:FnOk P w K mg base CX0 (n+1) f fd ["found","due"] (spSame n)) (misi:mg "isinstance" = none) (mtup:mg "tuple" = none) (mlen:mg "len" = none) (mrange:mg "range" = none) (mall:mg "all" = none) (kk:Kinds K):FnOk P w K mg base CX0 (n+2) f fd ["found","due"] (spSameT n):=by
 refine Fun.okR F scSame (fun vs H Q E h=>?_) (fun cdv A outer s H vs Q Q2 E hr h hq=>?_)
 ·obtain ⟨p,r,xs,ys,rfl,_⟩:=h
  rfl
 ·obtain ⟨p,r,xs,ys,rfl,hp,hr2,hl,hn,hs,q⟩:=h
  refine ⟨_,pss_cons (ps_if (pt_val (pe_callB call_isi (by rfl) misi boot_isinstance (pa_cons (pv 1) (pa_cons (pe_bltn (v:=.ty "tuple") (by rfl) mtup boot_tuple rfl) pa_nil)))) (pss_cons (ps_if (pw_or (pt_not (pt_val (pe_callB call_isi (by rfl) misi boot_isinstance (pa_cons (pv 0) (pa_cons (pe_bltn (v:=.ty "tuple") (by rfl) mtup boot_tuple rfl) pa_nil))))) (pw_or1 (pt_cmpR op_ne (pe_callB call_len_seq (by rfl) mlen PySem.boot_len (pa_cons (pv 0) pa_nil)) (pe_callB call_len_seq (by rfl) mlen PySem.boot_len (pa_cons (pv 1) pa_nil)) (nomark _)))).pt (pss_one (ps_ret pe_bl)) pss_nil)
   (pss_one (ps_ret (pe_callB (call_all rfl) (by rfl) mall boot_all (pa_cons (pe_comp (Nc:=["k","found","due"]) (mp:=[none,some 0,some 1]) rfl (CompOk.of (by rfl)) (pi_range1 (by rfl) mrange (pa_cons (pe_callB call_len_seq (by rfl) mlen PySem.boot_len (pa_cons (pv 1) pa_nil)) pa_nil))
    (fun cl C s H fp=>⟨pg_name (i:=0) nd_kfd rfl (Or.inl rfl),pts_nil,pe_call G hr (by rfl) D.at_ D.fn.kp D.bn .nil pass0 (pa_cons (pe_ix (ix_tupK (K:=K) rfl) (pv 1) (pv 0) (fun _ _=>rfl)) (pa_cons (pe_ix (ix_tupK (K:=K) rfl) (pv 2) (pv 0) (fun _ _=>rfl)) pa_nil))⟩)) pa_nil))))) pss_nil) pss_never,?_⟩
  refine ⟨_,rfl,_,_,_,_,rfl,.tup hr2,kit_same _,_,rfl,iteT ?_⟩
  refine ⟨_,rfl,_,_,_,_,rfl,.tup hp,kit_same _,_,rfl,iteF ?_⟩
  refine ⟨_,rfl,p,_,rfl,.inr (SqT.of hp),_,rfl,r,_,rfl,.inr (SqT.of hr2),rfl,_,rfl,iteNS (by rw [hl]) ?_⟩
  refine ⟨_,rfl,r,_,rfl,.inr (SqT.of hr2),_,rfl,(by omega),(by omega),?_⟩
  rw [Int.toNat_natCast]
  refine comp_map (as:=List.range ys.length) (v:=fun k=>.int (0+((k:Nat):Int))) (fun _=>.bl true) (src_range 0 _ H) (by rw [List.length_range];exact few hn) (fun i hi kc hk=>?_) (fun D hD=>?_)
  ·have hi:=List.mem_range.mp hi
   have ei:(0:Int)+((i:Nat):Int)=((i:Nat):Int):=by omega
   rw [ei]
   have hx:i < xs.length:=by omega
   have e1:atI xs ((i:Nat):Int)=some xs[i]:=atI_nat (List.getElem?_eq_getElem hx)
   have e2:atI ys ((i:Nat):Int)=some ys[i]:=atI_nat (List.getElem?_eq_getElem hi)
   exact ⟨_,rfl,_,rfl,p,_,_,_,rfl,rfl,SqT.of hp,e1,_,rfl,_,rfl,r,_,_,_,rfl,rfl,SqT.of hr2,e2,_,_,rfl,hs i _ _ (List.getElem?_eq_getElem hx) (List.getElem?_eq_getElem hi),hk⟩
  ·have hm:(List.range ys.length).map (fun _=>V.bl true)=(List.replicate ys.length true).map V.bl:=by
    rw [List.map_replicate]
    exact List.eq_replicate_iff.mpr ⟨by rw [List.length_map,List.length_range],fun b hb=>by obtain ⟨_,_,e⟩:=List.mem_map.mp hb;exact e.symm⟩
   refine ⟨D,List.replicate ys.length true,rfl,SqL.of (by rw [upd_same,hm]),?_⟩
   have ht:(List.replicate ys.length true).all id=true:=List.all_eq_true.mpr fun b hb=>by rw [List.eq_of_mem_replicate hb];rfl
   rw [ht]
   exact hq _ _ (Rst.same (same_upd hD) q)
theorem ok_same {f:Addr} {fd:FuncData} (F:Fun K "_law_same" "_law_same" sSame f fd) (D:Dfn K mg "_law_same" sSame f fd ["found","due"]) (misi:mg "isinstance" = none) (mtup:mg "tuple" = none) (mstr:mg "str" = none) (mint:mg "int" = none) (mbool:mg "bool" = none) (mlen:mg "len" = none) (mrange:mg "range" = none) (mall:mg "all" = none) (kk:Kinds K):∀ n:Nat,FnOk P w K mg base CX0 (n+1) f fd ["found","due"] (spSame n)
 | 0=>ok_same0 F misi mtup mstr mint mbool kk
 | n+1=>by
  have G:=ok_same F D misi mtup mstr mint mbool mlen mrange mall kk n
  refine FnOk.or2 (G.mono (by omega)) (ok_sameT F D G misi mtup mlen mrange mall kk) fun vs H Q E h=>?_
  obtain ⟨x,y,rfl,hs,q⟩:=h
  rcases hs with h | ⟨p,r,xs,ys,rfl,rfl,h⟩
  ·exact .inl ⟨x,y,rfl,h,q⟩
  ·exact .inr ⟨p,r,xs,ys,rfl,h.1,h.2.1,h.2.2.1,h.2.2.2.1,h.2.2.2.2,q⟩
def PoolAt (H:Hp) (a:Addr) (ws:List Str):Prop:=H a=some (.lst (ws.map V.str))/\1<=ws.length/\ws.length<=100/\∀ z ∈ ws,Good z
theorem PoolAt.mono {H H':Hp} {a:Addr} {ws:List Str} (S:Same H H') (h:PoolAt H a ws):PoolAt H' a ws:=⟨S _ _ h.1,h.2⟩
theorem pool_pick {ws:List Str} (h1:1<=ws.length) (hg:∀ z ∈ ws,Good z) (c k:Int):∃ z,atI (ws.map V.str) (drawD c k ((ws.map V.str).length:Int))=some (.str z)/\Good z:=by
 have hm:(0:Int) < ((ws.map V.str).length:Int):=by rw [List.length_map];omega
 have d0:=draw_lo c k hm
 have d1:=draw_hi c k hm
 obtain ⟨j,hj⟩:∃ j:Nat,drawD c k ((ws.map V.str).length:Int)=(j:Int):=⟨(drawD c k ((ws.map V.str).length:Int)).toNat,by omega⟩
 have hjl:j < ws.length:=by
  rw [hj,List.length_map] at d1
  omega
 exact ⟨ws[j],by rw [hj];exact atI_nat (by rw [List.getElem?_map,List.getElem?_eq_getElem hjl];rfl),hg _ (List.getElem_mem hjl)⟩
def spRowBy:Sp:=fun vs H Q _=>∃ (c:Int) (a:Addr) (ws:List Str) (m:Nat),vs=[.int c,.ref a,.int ((m:Nat):Int)]/\Builtin.Int.intBits c<=1048576/\PoolAt H a ws/\m<=50/\∀ (p:Addr) (es:List Str),H p=none->(∀ z ∈ es,Good z)->es.length<=m->Q (.ref p) (upd H p (.tup (es.map V.str)))
theorem scRowBy:FnScope ["cell","pool","most"] ["cell","pool","most"] (defScope sRowBy):=⟨rfl,rfl,rfl,by decide +kernel,rfl,by decide +kernel,by decide +kernel⟩
theorem nd_kcp:(["k","cell","pool"]:List Str).Nodup:=by decide +kernel
theorem ok_rowby {f gD:Addr} {fd dD:FuncData} (F:Fun K "_law_row_by" "_law_row_by" sRowBy f fd) (DD:Dfn K mg "_law_draw" sDraw gD dD ["cell","k","many"]) (mrange:mg "range" = none) (mlen:mg "len" = none) (mtup:mg "tuple" = none):FnOk P w K mg base CX0 2 f fd ["cell","pool","most"] spRowBy:=by
 have GD:FnOk P w K mg base CX0 1 gD dD ["cell","k","many"] spDraw:=ok_draw DD.fn
 refine Fun.okR F scRowBy (fun vs H Q E h=>?_) (fun cdv A outer s H vs Q Q2 E hr h hq=>?_)
 ·obtain ⟨c,a,ws,m,rfl,_⟩:=h
  rfl
 ·obtain ⟨c,a,ws,m,rfl,hb,⟨ha,w1,w2,hg⟩,hm,q⟩:=h
  refine ⟨_,pss_one (ps_ret (pe_callTy call_tuple_of (by rfl) mtup boot_tuple (pa_cons (pe_comp (Nc:=["k","cell","pool"]) (mp:=[none,some 0,some 1]) rfl (CompOk.of (by rfl)) (pi_range1 (by rfl) mrange (pa_cons (pe_call GD hr (by rfl) DD.at_ DD.fn.kp DD.bn .nil pass0 (pa_cons (pv 0) (pa_cons pe_int (pa_cons (pe_op op_add (pv 2) pe_int) pa_nil)))) pa_nil))
   (fun cl C s H fp=>⟨pg_name (i:=0) nd_kcp rfl (Or.inl rfl),pts_nil,pe_ix (ix_listK (K:=K) rfl) (pv 2) (pe_call GD hr (by rfl) DD.at_ DD.fn.kp DD.bn .nil pass0 (pa_cons (pv 1) (pa_cons (pe_op op_add pe_int (pv 0)) (pa_cons (pe_callB (call_len_seqK (K:=K) rfl) (by rfl) mlen PySem.boot_len (pa_cons (pv 2) pa_nil)) pa_nil)))) (fun _ _=>rfl)⟩)) pa_nil))),?_⟩
  have m0:(0:Int) < ((m:Nat):Int)+1:=by omega
  have d0:=draw_lo c 399 m0
  have d1:=draw_hi c 399 m0
  obtain ⟨n,hn⟩:∃ n:Nat,drawD c 399 (((m:Nat):Int)+1)=(n:Int):=⟨(drawD c 399 (((m:Nat):Int)+1)).toNat,by omega⟩
  refine ⟨_,rfl,_,rfl,_,_,rfl,rfl,_,_,_,rfl,hb,(by show (0:Int)<=399;decide),(by show (399:Int)<=100000;decide),m0,((n:Nat):Int),(by rw [hn]),by omega,by omega,?_⟩
  rw [Int.toNat_natCast]
  have hlen:(0:Int) < ((ws.map V.str).length:Int):=by rw [List.length_map];omega
  refine comp_grow (as:=List.range n) (v:=fun k=>.int (0+((k:Nat):Int))) (fun i acc H'=>H'=H/\∃ es:List Str,acc=es.map V.str/\es.length=i/\∀ z ∈ es,Good z) (fun i acc H' _ ⟨e,_⟩=>by rw [e];exact src_range 0 n H) (by rw [List.length_range];exact few (by omega))
   ⟨rfl,[],rfl,rfl,fun _ z=>nomatch z⟩ (fun i acc H' ⟨_,es,e,hl,_⟩=>by rw [e,List.length_map,hl]) ?_ ?_
  ·rintro i k acc H' hk ⟨rfl,es,rfl,hl,hw⟩ kk hkk
   have hk':k < n:=List.mem_range.mp (List.mem_of_getElem? hk)
   obtain ⟨z,az,gz⟩:=pool_pick w1 hg c (400+(0+((k:Nat):Int)))
   refine ⟨_,rfl,_,rfl,_,rfl,_,_,rfl,rfl,_,rfl,a,_,rfl,.inl (SqL.of ha),_,_,_,rfl,hb,(by show (0:Int)<=400+(0+((k:Nat):Int));omega),(by show 400+(0+((k:Nat):Int))<=100000;omega),hlen,a,_,_,_,rfl,rfl,SqL.of ha,az,hkk _ _ ⟨rfl,es++[z],by rw [List.map_append];rfl,by rw [List.length_append,hl];rfl,fun y hy=>?_⟩⟩
   rcases List.mem_append.mp hy with hy | hy
   ·exact hw y hy
   ·rw [List.mem_singleton.mp hy];exact gz
  ·rintro acc H' ⟨rfl,es,rfl,hl,hw⟩ D hD
   rw [List.length_range] at hl
   refine ⟨D,_,rfl,.inl ⟨SqL.of upd_same,fun p hp=>?_⟩⟩
   have S1:=same_upd (o:=.lst (es.map V.str)) hD
   have S2:=same_upd (o:=.tup (es.map V.str)) hp
   exact hq _ _ (Rst.one (S1.trans S2) (S1.free hp) upd_same trivial (q p es (S1.free hp) hw (by omega)))
theorem cut_strs (ws:List Str) (lo hi:Option Int):∃ ms:List Str,cutV (ws.map V.str) lo hi=ms.map V.str/\(∀ m ∈ ms,m ∈ ws)/\ms.length<=ws.length:=by
 unfold cutV
 refine ⟨(ws.drop (HT.sIx (ws.map V.str).length 0 lo)).take (HT.sIx (ws.map V.str).length (ws.map V.str).length hi - HT.sIx (ws.map V.str).length 0 lo),by rw [<-List.map_drop,<-List.map_take],fun m hm=>List.mem_of_mem_drop (List.mem_of_mem_take hm),?_⟩
 rw [List.length_take,List.length_drop]
 omega
theorem sIx_neg2 {n d:Nat} (h:1 < n):HT.sIx n d (some (-2))=n - 2:=by
 show (if (-2:Int) < 0 then (-2+(n:Int)).toNat else min ((-2:Int)).toNat n)=_
 rw [if_pos (by decide)]
 omega
theorem last2_at {cp:List Str} (h:1 < cp.length):∃ l ∈ cp,atI (cp.map V.str) (-2)=some (.str l):=by
 have hl:cp.length - 2 < cp.length:=by omega
 refine ⟨cp[cp.length - 2],List.getElem_mem hl,?_⟩
 unfold atI
 have e:ixN (cp.map V.str).length (-2)=some (cp.length - 2):=by
  unfold ixN
  rw [if_neg (by omega),if_pos (by rw [List.length_map];omega)]
  congr 1
  rw [List.length_map]
  omega
 rw [e]
 show (cp.map V.str)[cp.length - 2]?=_
 rw [List.getElem?_map,List.getElem?_eq_getElem hl]
 rfl
def CopyAt (H H2:Hp) (l:Addr) (cw:List Str) (n:Nat):Prop:=H2 l=some (.lst (cw.map V.str))/\H l=none/\Same H H2/\cw.length<=n/\∀ z ∈ cw,Good z
theorem CopyAt.push {H H2:Hp} {l:Addr} {cw:List Str} {n:Nat} {z:Str} (h:CopyAt H H2 l cw n) (hz:Good z):CopyAt H (upd H2 l (.lst (cw.map V.str++[.str z]))) l (cw++[z]) (n+1):=
 ⟨by rw [upd_same,List.map_append];rfl,h.2.1,same_to h.2.2.1 h.2.1,by rw [List.length_append];show _+1<=_;have:=h.2.2.2.1;omega,fun y hy=>(List.mem_append.mp hy).elim (h.2.2.2.2 y) fun hy=>by rw [List.mem_singleton.mp hy];exact hz⟩
theorem CopyAt.more {H H2:Hp} {l:Addr} {cw:List Str} {n n':Nat} (h:CopyAt H H2 l cw n) (hn:n<=n'):CopyAt H H2 l cw n':=⟨h.1,h.2.1,h.2.2.1,by have:=h.2.2.2.1;omega,h.2.2.2.2⟩
theorem CopyAt.keep {H H2 H3:Hp} {l:Addr} {cw:List Str} {n:Nat} (h:CopyAt H H2 l cw n) (S:Same H2 H3):CopyAt H H3 l cw n:=⟨S _ _ h.1,h.2.1,h.2.2.1.trans S,h.2.2.2⟩
theorem CopyAt.fresh {H H2:Hp} {l p:Addr} {cw ms:List Str} {n:Nat} (h:CopyAt H H2 l cw n) (hp:H2 p=none) (hl:ms.length<=n) (hg:∀ z ∈ ms,Good z):CopyAt H (upd H2 p (.lst (ms.map V.str))) p ms n:=
 ⟨upd_same,h.2.2.1.free hp,h.2.2.1.trans (same_upd hp),hl,hg⟩
def spCopyBy (K:PySem.W.Frag):Sp:=fun vs H Q _=>∃ (b:Addr) (bs:List Str) (c:Int) (a:Addr) (ws:List Str) (m:Nat),vs=[.ref b,.int c,.ref a,.int ((m:Nat):Int)]/\SqT K H b (bs.map V.str)/\(∀ z ∈ bs,Good z)/\bs.length<=50/\Builtin.Int.intBits c<=1048576/\PoolAt H a ws/\m<=50/\∀ (p:Addr) (es:List Str),H p=none->(∀ z ∈ es,Good z)->es.length<=m->Q (.ref p) (upd H p (.tup (es.map V.str)))
theorem scCopyBy:FnScope ["base","cell","pool","most","copy","k","way","word"] ["base","cell","pool","most"] (defScope sCopyBy):=⟨rfl,rfl,rfl,by decide +kernel,rfl,by decide +kernel,by decide +kernel⟩
theorem ok_copyby {f gD:Addr} {fd dD:FuncData} (F:Fun K "_law_copy_by" "_law_copy_by" sCopyBy f fd) (DD:Dfn K mg "_law_draw" sDraw gD dD ["cell","k","many"]) (mrange:mg "range" = none) (mlen:mg "len" = none) (mtup:mg "tuple" = none) (mint:mg "int" = none):FnOk P w K mg base CX0 2 f fd ["base","cell","pool","most"] (spCopyBy K):=by
 have GD:FnOk P w K mg base CX0 1 gD dD ["cell","k","many"] spDraw:=ok_draw DD.fn
 refine Fun.okR F scCopyBy (fun vs H Q E h=>?_) (fun cdv A outer s H vs Q Q2 E hr h hq=>?_)
 ·obtain ⟨b,bs,c,a,ws,m,rfl,_⟩:=h
  rfl
 ·obtain ⟨b,bs,c,a,ws,m,rfl,hbs,hbg,hbl,hb,hPool,hm,q⟩:=h
  refine ⟨_,pss_cons (ps_set (i:=4) scCopyBy.nd rfl (Or.inl rfl) (pe_lst pa_nil))
   (pss_cons (ps_for PassesOwn.never rfl (pi_range1 (by rfl) mrange (pa_cons (pe_op op_add (pe_callB call_len_seq (by rfl) mlen PySem.boot_len (pa_cons (pv 0) pa_nil)) pe_int) pa_nil)) (pg_name (i:=5) scCopyBy.nd rfl (Or.inl rfl))
    (pss_cons (ps_set (i:=6) scCopyBy.nd rfl (Or.inl rfl) (pe_call GD hr (by rfl) DD.at_ DD.fn.kp DD.bn .nil pass0 (pa_cons (pv 1) (pa_cons (pe_op op_add (pe_op op_mul pe_int (pv 5)) pe_int) (pa_cons pe_int pa_nil)))))
    (pss_cons (ps_set (i:=7) scCopyBy.nd rfl (Or.inl rfl) (pe_ix ix_list (pv 2) (pe_call GD hr (by rfl) DD.at_ DD.fn.kp DD.bn .nil pass0 (pa_cons (pv 1) (pa_cons (pe_op op_add (pe_op op_mul pe_int (pv 5)) pe_int) (pa_cons (pe_callB call_len_seq (by rfl) mlen PySem.boot_len (pa_cons (pv 2) pa_nil)) pa_nil)))) (fun _ _=>rfl)))
    (pss_cons (ps_mid (ps_if (pt_cmpR op_eq (pv 6) pe_int (nomark _)) (pss_one (ps_expr (pe_bm PySem.F.plainAttrs_list PySem.F.slot_list_append PySem.F.type_list_append mt_append (pv 4) (pa_cons (pv 7) pa_nil)))) pss_nil))
    (pss_cons (ps_mid (ps_if (pw_and (pt_cmpR op_eq (pv 6) pe_int (nomark _)) (pw_and1 (pt_cmpR (op_neS hr.units) (pv 4) (pe_lst pa_nil) (nomark _)))).pt (pss_one (ps_expr (pe_bm PySem.F.plainAttrs_list PySem.F.slot_list_append PySem.F.type_list_append mt_append (pv 4) (pa_cons (pe_ix ix_list (pv 4) (pe_un un_neg pe_int) (fun _ _=>rfl)) pa_nil)))) pss_nil))
    (pss_cons (ps_mid (ps_if (pw_and (pt_cmpR op_lt (pv 5) (pe_callB call_len_seq (by rfl) mlen PySem.boot_len (pa_cons (pv 0) pa_nil)) (nomark _)) (pw_and (pt_cmpR op_ne (pv 6) pe_int (nomark _)) (pw_and1 (pt_cmpR op_ne (pv 6) pe_int (nomark _))))).pt (pss_one (ps_expr (pe_bm PySem.F.plainAttrs_list PySem.F.slot_list_append PySem.F.type_list_append mt_append (pv 4) (pa_cons (pe_ix ix_list (pe_lst (pa_cons (pe_ix ix_tup (pv 0) (pv 5) (fun _ _=>rfl)) (pa_cons (pv 7) pa_nil))) (pe_callTy call_int1 (by rfl) mint boot_int (pa_cons (pe_cmpR op_eq (pv 6) pe_int (nomark _)) pa_nil)) (fun _ _=>rfl)) pa_nil)))) pss_nil))
    (pss_cons (ps_mid (ps_if (pw_and (pt_cmpR op_eq (pv 6) pe_int (nomark _)) (pw_and1 (pt_cmpR op_gt (pe_callB call_len_seq (by rfl) mlen PySem.boot_len (pa_cons (pv 4) pa_nil)) pe_int (nomark _)))).pt (pss_one (ps_set (i:=4) scCopyBy.nd rfl (Or.inl rfl) (pe_op op_cat (pe_slice sl_lst (pv 4) po_none (po_some (pe_un un_neg pe_int))) (pe_lst (pa_cons (pe_ix ix_list (pv 4) (pe_un un_neg pe_int) (fun _ _=>rfl)) (pa_cons (pe_ix ix_list (pv 4) (pe_un un_neg pe_int) (fun _ _=>rfl)) pa_nil)))))) pss_nil))
    (pss_one (ps_mid (ps_if (pw_and (pt_cmpR op_eq (pv 6) pe_int (nomark _)) (pw_and (pt_cmpR op_gt (pv 5) pe_int (nomark _)) (pw_and (pt_cmpR op_lt (pv 5) (pe_callB call_len_seq (by rfl) mlen PySem.boot_len (pa_cons (pv 0) pa_nil)) (nomark _)) (pw_and1 (pt_cmpR op_eq (pe_call GD hr (by rfl) DD.at_ DD.fn.kp DD.bn .nil pass0 (pa_cons (pv 1) (pa_cons (pe_op op_add (pe_op op_mul pe_int (pv 5)) pe_int) (pa_cons pe_int pa_nil)))) pe_int (nomark _)))))).pt (pss_one (ps_set (i:=4) scCopyBy.nd rfl (Or.inl rfl) (pe_slice sl_lst (pv 4) po_none (po_some (pe_un un_neg pe_int))))) pss_nil))))))))))
   (pss_one (ps_ret (pe_callTy call_tuple_of (by rfl) mtup boot_tuple (pa_cons (pe_slice sl_lst (pv 4) po_none (po_some (pv 3))) pa_nil))))),?_⟩
  have hle:(bs.map V.str).length=bs.length:=List.length_map ..
  refine ⟨Nat.zero_le _,fun l hl=>?_⟩
  have S0:=same_upd (o:=.lst []) hl
  refine ⟨_,rfl,b,_,rfl,.inr (sameT S0 hbs),_,_,rfl,rfl,_,rfl,by omega,by omega,?_⟩
  rw [hle,show ((bs.length:Int)+1).toNat=bs.length+1 by omega]
  refine for_range (fun i σ H2=>∃ (l:Addr) (cw:List Str) (v5 v6 v7:Option V),σ=[some (.ref b),some (.int c),some (.ref a),some (.int ((m:Nat):Int)),some (.ref l),v5,v6,v7]/\CopyAt H H2 l cw (3 * i))
   ⟨l,[],none,none,none,rfl,upd_same,hl,S0,Nat.le_refl _,fun _ z=>nomatch z⟩ ?_ ?_
  ·rintro i σ H2 hi ⟨l,cw,v5,v6,v7,rfl,hC⟩
   have ei:(0:Int)+((i:Nat):Int)=((i:Nat):Int):=by omega
   rw [ei]
   obtain ⟨ha2,w1,w2,hg⟩:=hPool.mono hC.2.2.1
   have hlen:(0:Int) < ((ws.map V.str).length:Int):=by rw [List.length_map];omega
   obtain ⟨z,az,gz⟩:=pool_pick w1 hg c (3 * ((i:Nat):Int)+2)
   refine ⟨_,rfl,_,rfl,_,_,rfl,rfl,.inl ⟨by decide,by decide⟩,_,_,rfl,rfl,_,_,_,rfl,hb,(by show (0:Int)<=3 * ((i:Nat):Int)+1;omega),(by show 3 * ((i:Nat):Int)+1<=100000;omega),(by show (0:Int) < 10;decide),?_⟩
   refine ⟨_,rfl,_,rfl,_,rfl,_,_,rfl,rfl,.inl ⟨by decide,by decide⟩,_,_,rfl,rfl,_,rfl,a,_,rfl,.inl (SqL.of ha2),_,_,_,rfl,hb,(by show (0:Int)<=3 * ((i:Nat):Int)+2;omega),(by show 3 * ((i:Nat):Int)+2<=100000;omega),hlen,a,_,_,_,rfl,rfl,SqL.of ha2,az,?_⟩
   generalize drawD c (3 * ((i:Nat):Int)+1) 10=way
   clear hlen ha2 w1 w2 hg az
   -- way 0
   refine ⟨fun σ' H'=>∃ (l:Addr) (cw:List Str),σ'=[some (.ref b),some (.int c),some (.ref a),some (.int ((m:Nat):Int)),some (.ref l),some (.int ((i:Nat):Int)),some (.int way),some (.str z)]/\CopyAt H H' l cw (3 * i+1),?_,?_⟩
   ·refine ⟨_,rfl,rfl,_,rfl,ite2 (fun _=>?_) (fun _=>⟨l,cw,rfl,hC.more (by omega)⟩)⟩
    exact ⟨_,rfl,.inl ⟨rfl,_,SqL.of hC.1⟩,_,rfl,l,_,_,rfl,rfl,hC.1,(by rw [List.length_map];exact fewer (by have:=hC.2.2.2.1;omega)),l,_,rfl,hC.push gz⟩
   clear hC
   rintro σ' H3 ⟨l,cw,rfl,hC⟩
   -- way 1
   refine ⟨fun σ' H'=>∃ (l:Addr) (cw:List Str),σ'=[some (.ref b),some (.int c),some (.ref a),some (.int ((m:Nat):Int)),some (.ref l),some (.int ((i:Nat):Int)),some (.int way),some (.str z)]/\CopyAt H H' l cw (3 * i+2),?_,?_⟩
   ·refine ⟨_,rfl,rfl,_,rfl,ite2 (fun _=>?_) (fun _=>iteF ⟨l,cw,rfl,hC.more (by omega)⟩)⟩
    refine ⟨_,rfl,Nat.zero_le _,fun le hle'=>?_⟩
    have Se:=same_upd (o:=.lst []) hle'
    have hC':=hC.keep Se
    refine ⟨0,decide (cw=[]),by decide,?_,_,rfl,ite2 (fun h=>?_) (fun _=>⟨l,cw,rfl,hC'.more (by omega)⟩)⟩
    ·have:=EqS.strs (K:=K) (H:=upd H3 le (.lst [])) (p:=l) (r:=le) (xs:=cw) (ys:=[]) (.inl ⟨SqL.of hC'.1,SqL.of upd_same⟩)
     exact this
    ·have hne:cw ≠ []:=fun e=>by rw [e] at h;exact absurd h (by decide)
     obtain ⟨y,ey,ay⟩:=last_at (cp:=cw) (List.length_pos_iff.mpr hne)
     refine ⟨_,rfl,.inl ⟨rfl,_,SqL.of hC'.1⟩,_,rfl,_,rfl,l,_,_,_,rfl,rfl,SqL.of hC'.1,ay,l,_,_,rfl,rfl,hC'.1,(by rw [List.length_map];exact fewer (by have:=hC.2.2.2.1;omega)),l,_,rfl,hC'.push (hC.2.2.2.2 y (List.mem_of_getLast? ey))⟩
   clear hC
   rintro σ' H3 ⟨l,cw,rfl,hC⟩
   -- the base's word
   refine ⟨fun σ' H'=>∃ (l:Addr) (cw:List Str),σ'=[some (.ref b),some (.int c),some (.ref a),some (.int ((m:Nat):Int)),some (.ref l),some (.int ((i:Nat):Int)),some (.int way),some (.str z)]/\CopyAt H H' l cw (3 * i+3),?_,?_⟩
   ·have hbs3:=sameT hC.2.2.1 hbs
    refine ⟨_,rfl,_,rfl,b,_,rfl,.inr hbs3,_,_,rfl,rfl,_,rfl,ite2 (fun hlt=>?_) (fun _=>iteF ⟨l,cw,rfl,hC.more (by omega)⟩)⟩
    have hlt:=of_decide_eq_true hlt
    rw [hle] at hlt
    have hib:i < bs.length:=by omega
    refine ⟨_,rfl,rfl,_,rfl,ite2 (fun _=>?_) (fun _=>iteF ⟨l,cw,rfl,hC.more (by omega)⟩)⟩
    refine ⟨_,rfl,rfl,_,rfl,ite2 (fun _=>?_) (fun _=>⟨l,cw,rfl,hC.more (by omega)⟩)⟩
    have ab:atI (bs.map V.str) ((i:Nat):Int)=some (.str bs[i]):=atI_nat (by rw [List.getElem?_map,List.getElem?_eq_getElem hib];rfl)
    refine ⟨_,rfl,.inl ⟨rfl,_,SqL.of hC.1⟩,_,rfl,_,rfl,b,_,_,_,rfl,rfl,hbs3,ab,_,rfl,few (by show 2<=_;omega),fun le hle'=>?_⟩
    have Se:=same_upd (o:=.lst [V.str bs[i],.str z]) hle'
    have hC':=hC.keep Se
    have pick:∃ y,atI [V.str bs[i],.str z] (if decide (V.int way=V.int 4)=true then 1 else 0)=some (.str y)/\Good y:=by
     by_cases h:decide (V.int way=V.int 4)=true
     ·rw [if_pos h];exact ⟨z,rfl,gz⟩
     ·rw [if_neg h];exact ⟨bs[i],rfl,hbg _ (List.getElem_mem hib)⟩
    obtain ⟨y,ay,gy⟩:=pick
    exact ⟨_,rfl,rfl,.inr ⟨_,rfl,le,_,_,_,rfl,rfl,SqL.of upd_same,ay,l,_,_,rfl,rfl,hC'.1,(by rw [List.length_map];exact fewer (by have:=hC.2.2.2.1;omega)),l,_,rfl,hC'.push gy⟩⟩
   clear hC
   rintro σ' H3 ⟨l,cw,rfl,hC⟩
   -- way 5
   refine ⟨fun σ' H'=>∃ (l:Addr) (cw:List Str),σ'=[some (.ref b),some (.int c),some (.ref a),some (.int ((m:Nat):Int)),some (.ref l),some (.int ((i:Nat):Int)),some (.int way),some (.str z)]/\CopyAt H H' l cw (3 * i+3),?_,?_⟩
   ·refine ⟨_,rfl,rfl,_,rfl,ite2 (fun _=>?_) (fun _=>iteF ⟨l,cw,rfl,hC⟩)⟩
    refine ⟨_,rfl,l,_,rfl,.inl (SqL.of hC.1),_,_,rfl,rfl,_,rfl,ite2 (fun hlt=>?_) (fun _=>⟨l,cw,rfl,hC⟩)⟩
    have hlt:=of_decide_eq_true hlt
    rw [List.length_map] at hlt
    have hcl:1 < cw.length:=by omega
    obtain ⟨y1,e1,a1⟩:=last_at (cp:=cw) (by omega)
    obtain ⟨y2,e2,a2⟩:=last2_at hcl
    have hcut:cutV (cw.map V.str) none (some (-2))=(cw.take (cw.length - 2)).map V.str:=by
     unfold cutV
     rw [HT.sIx_none,List.drop_zero,Nat.sub_zero,List.map_take]
     congr 1
     show HT.sIx (cw.map V.str).length (cw.map V.str).length (some (-2))=_
     rw [List.length_map]
     exact sIx_neg2 hcl
    refine ⟨_,rfl,_,rfl,_,rfl,l,_,rfl,SqL.of hC.1,fun p1 hp1=>?_⟩
    rw [hcut]
    have Sp:=same_upd (o:=.lst ((cw.take (cw.length - 2)).map V.str)) hp1
    have hC1:=hC.keep Sp
    refine ⟨_,rfl,_,rfl,l,_,_,_,rfl,rfl,SqL.of hC1.1,a1,_,rfl,_,rfl,l,_,_,_,rfl,rfl,SqL.of hC1.1,a2,few (by show 2<=_;omega),fun p2 hp2=>?_⟩
    have Sq:=same_upd (o:=.lst [V.str y1,.str y2]) hp2
    have hC2:=hC1.keep Sq
    refine ⟨p1,p2,_,_,rfl,rfl,Sq _ _ upd_same,upd_same,(by rw [List.length_map,List.length_take];exact few (by show _+2<=_;have:=hC.2.2.2.1;omega)),fun p3 hp3=>⟨p3,cw.take (cw.length - 2)++[y1,y2],rfl,?_⟩⟩
    have hnew:=hC2.fresh (ms:=cw.take (cw.length - 2)++[y1,y2]) hp3 (by rw [List.length_append,List.length_take];show _+2<=_;have:=hC.2.2.2.1;omega) (fun z hz=>by
     rcases List.mem_append.mp hz with hz | hz
     ·exact hC.2.2.2.2 z (List.mem_of_mem_take hz)
     ·rcases List.mem_cons.mp hz with e | hz
      ·rw [e];exact hC.2.2.2.2 y1 (List.mem_of_getLast? e1)
      ·rw [List.mem_singleton.mp hz];exact hC.2.2.2.2 y2 e2)
    rw [List.map_append] at hnew
    exact hnew
   clear hC
   rintro σ' H3 ⟨l,cw,rfl,hC⟩
   -- way 6
   refine ⟨fun σ' H'=>∃ (l:Addr) (cw:List Str),σ'=[some (.ref b),some (.int c),some (.ref a),some (.int ((m:Nat):Int)),some (.ref l),some (.int ((i:Nat):Int)),some (.int way),some (.str z)]/\CopyAt H H' l cw (3 * i+3),?_,?_⟩
   ·have hbs3:=sameT hC.2.2.1 hbs
    refine ⟨_,rfl,rfl,_,rfl,ite2 (fun _=>?_) (fun _=>iteF ⟨l,cw,rfl,hC⟩)⟩
    refine ⟨_,rfl,_,_,rfl,rfl,_,rfl,ite2 (fun _=>?_) (fun _=>iteF ⟨l,cw,rfl,hC⟩)⟩
    refine ⟨_,rfl,_,rfl,b,_,rfl,.inr hbs3,_,_,rfl,rfl,_,rfl,ite2 (fun _=>?_) (fun _=>iteF ⟨l,cw,rfl,hC⟩)⟩
    refine ⟨_,rfl,_,rfl,_,_,rfl,rfl,.inl ⟨by decide,by decide⟩,_,_,rfl,rfl,_,_,_,rfl,hb,(by show (0:Int)<=3 * ((i:Nat):Int)+3;omega),(by show 3 * ((i:Nat):Int)+3<=100000;omega),(by show (0:Int) < 3;decide),rfl,_,rfl,ite2 (fun _=>?_) (fun _=>⟨l,cw,rfl,hC⟩)⟩
    obtain ⟨ms,ecut,hms,hml⟩:=cut_strs cw none (some (-1))
    refine ⟨_,rfl,_,rfl,_,rfl,l,_,rfl,SqL.of hC.1,fun p1 hp1=>⟨p1,ms,rfl,?_⟩⟩
    rw [ecut]
    exact hC.fresh hp1 (by have:=hC.2.2.2.1;omega) (fun z hz=>hC.2.2.2.2 z (hms z hz))
   ·rintro σ' H3 ⟨l,cw,rfl,hC⟩
    exact ⟨l,cw,_,_,_,rfl,hC.more (by omega)⟩
  ·rintro σ H2 ⟨l,cw,v5,v6,v7,rfl,hC⟩
   refine ⟨_,rfl,_,rfl,_,rfl,l,_,rfl,SqL.of hC.1,fun p1 hp1=>?_⟩
   rw [cutTake V.str cw m]
   have S1:=same_upd (o:=.lst ((cw.take m).map V.str)) hp1
   refine ⟨p1,_,rfl,.inl ⟨SqL.of upd_same,fun p2 hp2=>?_⟩⟩
   have S2:=same_upd (o:=.tup ((cw.take m).map V.str)) hp2
   have hn:=hC.2.2.1.free (S1.free hp2)
   exact hq _ _ (Rst.one ((hC.2.2.1.trans S1).trans S2) hn upd_same trivial (q p2 (cw.take m) hn (fun z hz=>hC.2.2.2.2 z (List.mem_of_mem_take hz)) (by rw [List.length_take];omega)))
theorem pick3 {α:Type} (x y z:α) (a b:Int):∃ v,atI [x,y,z] (a * b % 3)=some v/\(v=x\/v=y\/v=z):=by
 have h0:0<=a * b % 3:=Int.emod_nonneg _ (by decide)
 have h1:a * b % 3 < 3:=Int.emod_lt_of_pos _ (by decide)
 generalize a * b % 3=d at h0 h1
 obtain ⟨j,rfl⟩:∃ j:Nat,d=(j:Int):=⟨d.toNat,by omega⟩
 have hj:j < 3:=by omega
 match j,hj with
 | 0,_=>exact ⟨x,rfl,.inl rfl⟩
 | 1,_=>exact ⟨y,rfl,.inr (.inl rfl)⟩
 | 2,_=>exact ⟨z,rfl,.inr (.inr rfl)⟩
def spPricesBy:Sp:=fun vs H Q _=>∃ c:Int,vs=[.int c]/\Builtin.Int.intBits c<=1048576/\∀ (p:Addr) (pr:List Int),H p=none->pr.length=7->(∀ x ∈ pr,0<=x/\x<=10 ^ 30)->Q (.ref p) (upd H p (.tup (pr.map V.int)))
theorem scPricesBy:FnScope ["cell","found","k","some"] ["cell"] (defScope sPricesBy):=⟨rfl,rfl,rfl,by decide +kernel,rfl,by decide +kernel,by decide +kernel⟩
theorem ok_pricesby {f gD:Addr} {fd dD:FuncData} (F:Fun K "_law_prices_by" "_law_prices_by" sPricesBy f fd) (DD:Dfn K mg "_law_draw" sDraw gD dD ["cell","k","many"]) (mrange:mg "range" = none) (mtup:mg "tuple" = none):FnOk P w K mg base CX0 2 f fd ["cell"] spPricesBy:=by
 have GD:FnOk P w K mg base CX0 1 gD dD ["cell","k","many"] spDraw:=ok_draw DD.fn
 refine Fun.okR F scPricesBy (fun vs H Q E h=>?_) (fun cdv A outer s H vs Q Q2 E hr h hq=>?_)
 ·obtain ⟨c,rfl,_⟩:=h
  rfl
 ·obtain ⟨c,rfl,hb,q⟩:=h
  refine ⟨_,pss_cons (ps_set (i:=1) scPricesBy.nd rfl (Or.inl rfl) (pe_lst pa_nil))
   (pss_cons (ps_for PassesOwn.never rfl (pi_range1 (by rfl) mrange (pa_cons pe_int pa_nil)) (pg_name (i:=2) scPricesBy.nd rfl (Or.inl rfl))
    (pss_cons (ps_set (i:=3) scPricesBy.nd rfl (Or.inl rfl) (pe_lst (pa_cons (pe_call GD hr (by rfl) DD.at_ DD.fn.kp DD.bn .nil pass0 (pa_cons (pv 0) (pa_cons (pe_op op_add pe_int (pv 2)) (pa_cons pe_int pa_nil)))) (pa_cons (pe_call GD hr (by rfl) DD.at_ DD.fn.kp DD.bn .nil pass0 (pa_cons (pv 0) (pa_cons (pe_op op_add pe_int (pv 2)) (pa_cons pe_int pa_nil)))) (pa_cons (pe_call GD hr (by rfl) DD.at_ DD.fn.kp DD.bn .nil pass0 (pa_cons (pv 0) (pa_cons (pe_op op_add pe_int (pv 2)) (pa_cons (pe_op op_add (pe_op op_pow pe_int pe_int) pe_int) pa_nil)))) pa_nil)))))
    (pss_one (ps_expr (pe_bm PySem.F.plainAttrs_list PySem.F.slot_list_append PySem.F.type_list_append mt_append (pv 1) (pa_cons (pe_ix ix_list (pv 3) (pe_op op_mod (pe_op op_mul (pe_call GD hr (by rfl) DD.at_ DD.fn.kp DD.bn .nil pass0 (pa_cons (pv 0) (pa_cons pe_int (pa_cons pe_int pa_nil)))) (pe_call GD hr (by rfl) DD.at_ DD.fn.kp DD.bn .nil pass0 (pa_cons (pv 0) (pa_cons (pe_op op_add pe_int (pv 2)) (pa_cons pe_int pa_nil))))) pe_int) (fun _ _=>rfl)) pa_nil))))))
   (pss_one (ps_ret (pe_callTy call_tuple_of (by rfl) mtup boot_tuple (pa_cons (pv 1) pa_nil))))),?_⟩
  refine ⟨Nat.zero_le _,fun l hl=>?_⟩
  have S0:=same_upd (o:=.lst []) hl
  refine ⟨7,rfl,by decide,by decide,?_⟩
  refine for_range (n:=7) (fun i σ H2=>∃ (pr:List Int) (v2 v3:Option V),σ=[some (.int c),some (.ref l),v2,v3]/\H2 l=some (.lst (pr.map V.int))/\Same H H2/\pr.length=i/\∀ x ∈ pr,0<=x/\x<=10 ^ 30)
   ⟨[],none,none,rfl,upd_same,S0,rfl,fun _ z=>nomatch z⟩ ?_ ?_
  ·rintro i σ H2 hi ⟨pr,v2,v3,rfl,h2,S2,hpl,hP⟩
   have ei:(0:Int)+((i:Nat):Int)=((i:Nat):Int):=by omega
   rw [ei]
   have e30:(10:Int) ^ ((30:Int).toNat)+1=1000000000000000000000000000001:=by decide +kernel
   have x1:=draw_lo c (201+((i:Nat):Int)) (m:=3) (by decide)
   have x2:=draw_hi c (201+((i:Nat):Int)) (m:=3) (by decide)
   have y1:=draw_lo c (211+((i:Nat):Int)) (m:=12) (by decide)
   have y2:=draw_hi c (211+((i:Nat):Int)) (m:=12) (by decide)
   have z1:=draw_lo c (221+((i:Nat):Int)) (m:=(10:Int) ^ ((30:Int).toNat)+1) (by rw [e30];decide)
   have z2:=draw_hi c (221+((i:Nat):Int)) (m:=(10:Int) ^ ((30:Int).toNat)+1) (by rw [e30];decide)
   refine ⟨_,rfl,_,rfl,_,_,rfl,rfl,_,_,_,rfl,hb,(by show (0:Int)<=201+((i:Nat):Int);omega),(by show 201+((i:Nat):Int)<=100000;omega),(by show (0:Int) < 3;decide),_,rfl,_,rfl,_,_,rfl,rfl,_,_,_,rfl,hb,(by show (0:Int)<=211+((i:Nat):Int);omega),(by show 211+((i:Nat):Int)<=100000;omega),(by show (0:Int) < 12;decide),_,rfl,_,rfl,_,_,rfl,rfl,_,_,rfl,rfl,⟨by decide,by decide,by decide⟩,_,_,rfl,rfl,_,_,_,rfl,hb,(by show (0:Int)<=221+((i:Nat):Int);omega),(by show 221+((i:Nat):Int)<=100000;omega),(by show (0:Int) < (10:Int) ^ ((30:Int).toNat)+1;rw [e30];decide),few (by show 3<=_;omega),fun ls hls=>?_⟩
   have z2':drawD c (221+((i:Nat):Int)) ((10:Int) ^ ((30:Int).toNat)+1) < 1000000000000000000000000000001:=by
    have:=z2
    rw [e30] at this ⊢
    exact this
   clear z2
   have hx30:(10:Int) ^ 30=1000000000000000000000000000000:=by decide +kernel
   generalize drawD c (201+((i:Nat):Int)) 3=X at x1 x2
   generalize drawD c (211+((i:Nat):Int)) 12=Y at y1 y2
   generalize drawD c (221+((i:Nat):Int)) ((10:Int) ^ ((30:Int).toNat)+1)=Z at z1 z2'
   have S3:=same_upd (o:=.lst [V.int X,.int Y,.int Z]) hls
   have h3:=S3 _ _ h2
   obtain ⟨v,av,hv⟩:=pick3 (V.int X) (.int Y) (.int Z) (drawD c 231 4) (drawD c (241+((i:Nat):Int)) 2)
   obtain ⟨n,hn,hn0⟩:∃ n:Int,v=.int n/\0<=n/\n<=10 ^ 30:=by
    rw [hx30]
    rcases hv with rfl | rfl | rfl
    ·exact ⟨X,rfl,by omega,by omega⟩
    ·exact ⟨Y,rfl,by omega,by omega⟩
    ·exact ⟨Z,rfl,by omega,by omega⟩
   subst hn
   have w1:=draw_lo c 231 (m:=4) (by decide)
   have w2:=draw_hi c 231 (m:=4) (by decide)
   refine ⟨_,rfl,.inl ⟨rfl,_,SqL.of h3⟩,_,rfl,_,rfl,_,_,_,rfl,hb,(by show (0:Int)<=231;decide),(by show (231:Int)<=100000;decide),(by show (0:Int) < 4;decide),_,rfl,_,rfl,_,_,rfl,rfl,_,_,_,rfl,hb,(by show (0:Int)<=241+((i:Nat):Int);omega),(by show 241+((i:Nat):Int)<=100000;omega),(by show (0:Int) < 2;decide),_,_,rfl,rfl,.inl ⟨by show -(2 ^ 64) < drawD c 231 4;omega,by show drawD c 231 4 < 2 ^ 64;omega⟩,_,_,rfl,rfl,(by show (0:Int) < 3;decide),ls,_,_,_,rfl,rfl,SqL.of upd_same,av,l,_,_,rfl,rfl,h3,(by rw [List.length_map];exact fewer (by omega)),pr++[n],_,_,rfl,by rw [upd_same,List.map_append];rfl,same_to (S2.trans S3) hl,by rw [List.length_append,hpl];rfl,fun x hx=>?_⟩
   rcases List.mem_append.mp hx with hx | hx
   ·exact hP x hx
   ·rw [List.mem_singleton.mp hx];exact hn0
  ·rintro σ H2 ⟨pr,v2,v3,rfl,h2,S2,hpl,hP⟩
   refine ⟨_,rfl,l,_,rfl,.inl ⟨SqL.of h2,fun p hp=>?_⟩⟩
   have S3:=same_upd (o:=.tup (pr.map V.int)) hp
   exact hq _ _ (Rst.one (S2.trans S3) (S2.free hp) upd_same trivial (q p pr (S2.free hp) hpl hP))
structure LayAt (es cs:List Str) (pr:List Int) (R:Nat->Nat->Int) (x:Lay) (j:Nat) (r:List Sk):Prop where
 told:Told es cs pr R x.d j r
 di:x.d<=es.length
 dj:j<=cs.length
 last:x.l=(cs.take j).getLast?
 pl:x.P.length=es.length
 gl:x.G.length=es.length+1
 read:rd x.P x.G x.d++gAt x.G x.d=cs.take j
 pn:∀ k,x.d<=k->(x.P[k]?).join=none
 gn:∀ k,x.d < k->gAt x.G k=[]
theorem gAt_rep (n k:Nat):gAt (List.replicate n []) k=[]:=by
 unfold gAt
 cases h:(List.replicate n ([]:List Str))[k]? with
 | none=>rfl
 | some z=>exact List.eq_of_mem_replicate (List.mem_of_getElem? h)
theorem gAt_set {G:List (List Str)} {d:Nat} {z:List Str} (h:d < G.length):gAt (G.set d z) d=z:=by
 unfold gAt
 rw [List.getElem?_set_self h]
 rfl
theorem gAt_ne {G:List (List Str)} {d k:Nat} {z:List Str} (h:d ≠ k):gAt (G.set d z) k=gAt G k:=by
 unfold gAt
 rw [List.getElem?_set_ne h]
theorem LayAt.start {es cs:List Str} {pr:List Int} {R:Nat->Nat->Int} {sts:List Sk} (h:Told es cs pr R 0 0 sts):LayAt es cs pr R (lay0 es.length) 0 sts:=
 ⟨h,Nat.zero_le _,Nat.zero_le _,rfl,List.length_replicate,List.length_replicate,by
  show []++gAt (List.replicate (es.length+1) []) 0=_
  rw [gAt_rep]
  rfl,fun k _=>by
  show ((List.replicate es.length (none:Option Str))[k]?).join=none
  cases h:(List.replicate es.length (none:Option Str))[k]? with
  | none=>rfl
  | some z=>rw [List.eq_of_mem_replicate (List.mem_of_getElem? h)];rfl,fun k _=>gAt_rep _ _⟩
theorem LayAt.step {es cs:List Str} {pr:List Int} {R:Nat->Nat->Int} {x:Lay} {j:Nat} {st:Sk} {r:List Sk} (h:LayAt es cs pr R x j (st :: r)):fitsB es x.d x.l st=true/\∃ j',LayAt es cs pr R (lay1 es x st) j' r:=by
 obtain ⟨y,hy,rfl,ht⟩:=h.told
 have hyw:=(cheap_in (List.mem_of_mem_head? hy)).1
 have hf:=ways_fwd es cs x.d j h.di h.dj y hyw
 have ha:=way_after hyw h.di h.dj
 rw [<-h.last] at ha
 unfold after at ha
 split at ha
 ·rename_i hfit
  injection ha with ha
  injection ha with e1 e2
  refine ⟨hfit,y.2.2,?_⟩
  have ej:cs.take y.2.2=cs.take j++ww es x.d x.l y.1:=by
   rw [e2,<-List.take_add,show j+(y.2.2 - j)=y.2.2 by omega]
  have hroom:=@fits_room es x.d x.l y.1 hfit
  have hlast:lastOr (ww es x.d x.l y.1) x.l=(cs.take y.2.2).getLast?:=by
   rw [ej,List.getLast?_append,<-h.last]
   unfold lastOr
   cases (ww es x.d x.l y.1).getLast? <;> rfl
  rw [<-e1] at ht hf
  cases hg:isGap y.1 with
  | true=>
   have w0:=gap_wd hg
   have ed:(lay1 es x y.1).d=x.d:=by show x.d+wd y.1=_;rw [w0];rfl
   have eP:(lay1 es x y.1).P=x.P:=by show (if isGap y.1=true then _ else _)=_;rw [if_pos hg]
   have eG:(lay1 es x y.1).G=x.G.set x.d (gAt x.G x.d++ww es x.d x.l y.1):=by show (if isGap y.1=true then _ else _)=_;rw [if_pos hg]
   have hdl:x.d < x.G.length:=by rw [h.gl];have:=h.di;omega
   refine ⟨ht,hf.1,hf.2.1,hlast,by rw [eP];exact h.pl,by rw [eG,List.length_set];exact h.gl,?_,?_,?_⟩
   ·rw [ed,eP,eG,gAt_set hdl,rd_congr (P':=x.P) (G':=x.G) x.d fun i hi=>⟨rfl,List.getElem?_set_ne (by omega)⟩,<-List.append_assoc,h.read,ej]
   ·rw [ed,eP];exact h.pn
   ·intro k hk
    rw [ed] at hk
    rw [eG,gAt_ne (by omega)]
    exact h.gn k hk
  | false=>
   have hn:¬ isGap y.1=true:=by rw [hg];exact Bool.false_ne_true
   have eP:(lay1 es x y.1).P=layPut x.P x.d (ww es x.d x.l y.1):=by show (if isGap y.1=true then _ else _)=_;rw [if_neg hn]
   have eG:(lay1 es x y.1).G=x.G:=by show (if isGap y.1=true then _ else _)=_;rw [if_neg hn]
   have hr1:=(hroom hg).1
   have hr2:x.d+(ww es x.d x.l y.1).length<=x.P.length:=by rw [h.pl];exact (hroom hg).2 h.di
   refine ⟨ht,hf.1,hf.2.1,hlast,by rw [eP,layPut_len];exact h.pl,by rw [eG];exact h.gl,?_,?_,?_⟩
   ·rw [eP,eG]
    show rd _ _ (x.d+wd y.1)++gAt _ (x.d+wd y.1)=_
    rw [rd_put hr2 h.pn h.gn,List.take_of_length_le (by omega),h.read,ej]
   ·intro k hk
    have hk:x.d+wd y.1<=k:=hk
    rw [eP,show k=x.d+(k - x.d) by omega,layPut_at _ _ _ _ hr2 h.pn]
    exact List.getElem?_eq_none (by omega)
   ·intro k hk
    have hk:x.d+wd y.1 < k:=hk
    rw [eG]
    exact h.gn k (by omega)
 ·cases ha
theorem LayAt.all {es cs:List Str} {pr:List Int} {R:Nat->Nat->Int}:∀ {sts:List Sk} {x:Lay} {j:Nat},LayAt es cs pr R x j sts->∃ j',LayAt es cs pr R (sts.foldl (lay1 es) x) j' []
 | [],x,j,h=>⟨j,h⟩
 | st :: r,x,j,h=>by
  obtain ⟨_,j',h'⟩:=h.step
  show ∃ j',LayAt es cs pr R (r.foldl (lay1 es) (lay1 es x st)) j' []
  exact LayAt.all h'
theorem laid_all {es cs:List Str} {pr:List Int} {R:Nat->Nat->Int} {sts:List Sk} (h:Told es cs pr R 0 0 sts):(layAll es sts).P.length=es.length/\(layAll es sts).G.length=es.length+1/\rd (layAll es sts).P (layAll es sts).G es.length++gAt (layAll es sts).G es.length=cs:=by
 obtain ⟨j,h'⟩:=(LayAt.start h).all
 have h':LayAt es cs pr R (layAll es sts) j []:=h'
 obtain ⟨e1,e2⟩:=h'.told
 have hr:=h'.read
 rw [e1,e2,List.take_length] at hr
 exact ⟨h'.pl,h'.gl,hr⟩
theorem rest_uniq {es cs:List Str} {pr:Nat->Sk->Int} {R R':Nat->Nat->Int} (h1:Rest pr es.length cs.length (ways es cs) R) (h2:Rest pr es.length cs.length (ways es cs) R'):∀ (n i j:Nat),i<=es.length->j<=cs.length->(es.length - i)+(cs.length - j)<=n->R i j=R' i j
 | 0,i,j,hi,hj,hn=>by
  obtain rfl:i=es.length:=by omega
  obtain rfl:j=cs.length:=by omega
  rw [h1.z,h2.z]
 | n+1,i,j,hi,hj,hn=>by
  rw [<-rest_min h1 hi hj,<-rest_min h2 hi hj]
  congr 1
  refine List.map_congr_left fun x hx=>?_
  have hf:=ways_fwd es cs i j hi hj x hx
  rw [rest_uniq h1 h2 n x.2.1 x.2.2 hf.1 hf.2.1 (by omega)]
theorem told_uniq {es cs:List Str} {pr:List Int} {R R':Nat->Nat->Int} (h1:Rest (fun i st=>price es i pr st) es.length cs.length (ways es cs) R) (h2:Rest (fun i st=>price es i pr st) es.length cs.length (ways es cs) R'):∀ (sts sts':List Sk) (i j:Nat),i<=es.length->j<=cs.length->Told es cs pr R i j sts->Told es cs pr R' i j sts'->sts=sts'
 | [],[],_,_,_,_,_,_=>rfl
 | [],_ :: _,i,j,_,_,h,h'=>by
  obtain ⟨rfl,rfl⟩:=h
  obtain ⟨x,hx,_⟩:=h'
  have:=(cheap_in (List.mem_of_mem_head? hx)).1
  rw [ways_none] at this
  cases this
 | _ :: _,[],i,j,_,_,h,h'=>by
  obtain ⟨rfl,rfl⟩:=h'
  obtain ⟨x,hx,_⟩:=h
  have:=(cheap_in (List.mem_of_mem_head? hx)).1
  rw [ways_none] at this
  cases this
 | st :: r,st' :: r',i,j,hi,hj,h,h'=>by
  obtain ⟨x,hx,rfl,ht⟩:=h
  obtain ⟨x',hx',rfl,ht'⟩:=h'
  have ec:cheap es cs pr R i j=cheap es cs pr R' i j:=by
   unfold cheap
   refine List.filter_congr fun y hy=>?_
   have hf:=ways_fwd es cs i j hi hj y hy
   rw [rest_uniq h1 h2 _ y.2.1 y.2.2 hf.1 hf.2.1 (Nat.le_refl _),rest_uniq h1 h2 _ i j hi hj (Nat.le_refl _)]
  rw [ec,hx'] at hx
  cases hx
  have hf:=ways_fwd es cs i j hi hj x (cheap_in (List.mem_of_mem_head? hx')).1
  rw [told_uniq h1 h2 r r' _ _ hf.1 hf.2.1 ht ht']
def kindS:Sk->Str
 | .keep=>Str.ofString "keep"
 | .turn _=>Str.ofString "turn"
 | .lose=>Str.ofString "lose"
 | .add _=>Str.ofString "add"
 | .twice=>Str.ofString "twice"
 | .swap=>Str.ofString "swap"
 | .skip _=>Str.ofString "skip"
theorem kind_at (st:Sk):atI (stepV st) 0=some (.str (kindS st)):=by cases st <;> rfl
theorem kind_gap (st:Sk):inV (.str (kindS st)) [.str (Str.ofString "add"),.str (Str.ofString "twice")]=isGap st:=by
 cases st with
 | keep=>show inV (.str (Str.ofString "keep")) _=false;decide +kernel
 | turn z=>show inV (.str (Str.ofString "turn")) _=false;decide +kernel
 | lose=>show inV (.str (Str.ofString "lose")) _=false;decide +kernel
 | add z=>show inV (.str (Str.ofString "add")) _=true;decide +kernel
 | twice=>show inV (.str (Str.ofString "twice")) _=true;decide +kernel
 | swap=>show inV (.str (Str.ofString "swap")) _=false;decide +kernel
 | skip m=>show inV (.str (Str.ofString "skip")) _=false;decide +kernel
theorem ww_len (es:List Str) (d:Nat) (l:Option Str) (st:Sk):(ww es d l st).length<=2:=by
 cases st with
 | twice=>cases l <;> (show _<=2;simp [ww])
 | _=>show _<=2;simp [ww]
theorem gap_len {es cs:List Str} {pr:List Int} {R:Nat->Nat->Int} {x:Lay} {j:Nat} {r:List Sk} (h:LayAt es cs pr R x j r):(gAt x.G x.d).length<=cs.length:=by
 have:=congrArg List.length h.read
 rw [List.length_append,List.length_take] at this
 omega
def spLaid (K:PySem.W.Frag):Sp:=fun vs H Q _=>∃ (p q r:Addr) (es cs:List Str) (pr:List Int),vs=[.ref p,.ref q,.ref r]/\SqT K H p (es.map V.str)/\SqT K H q (cs.map V.str)/\SqT K H r (pr.map V.int)/\(∀ z ∈ es,Good z)/\(∀ z ∈ cs,Good z)/\es.length<=100/\cs.length<=100/\pr.length=7 ∧
 ∀ (H':Hp) (x a b:Addr) (gs:List Addr) (sts:List Sk) (R:Nat->Nat->Int),Same H H'->H' x=some (.tup [.ref a,.ref b])->H' a=some (.tup ((layAll es sts).P.map optS))->H' b=some (.tup (gs.map V.ref))->GapsAt H' gs (layAll es sts).G->Rest (fun i st=>price es i pr st) es.length cs.length (ways es cs) R->Told es cs pr R 0 0 sts->Q (.ref x) H'
theorem scLaid:FnScope ["base","copy","prices","places","gaps","done","last","step","after","words","place","word"] ["base","copy","prices"] (defScope sLaid):=⟨rfl,rfl,rfl,by decide +kernel,rfl,by decide +kernel,by decide +kernel⟩
theorem ok_laid {f gF gA C aG:Addr} {fd dF dA:FuncData} (F:Fun K "laid_words" "laid_words" sLaid f fd) (DF:Dfn K mg "first_cheapest" sFC gF dF ["elder","copy","prices"]) (GF:FnOk P w K mg base CX0 4 gF dF ["elder","copy","prices"] (spFC K)) (DA:Dfn K mg "step_after" sAfter gA dA ["elder","done","last","step"]) (GA:FnOk P w K mg base (CXv P w) 4 gA dA ["elder","done","last","step"] (spAfter K C))
  (mGK:mg "GAP_KINDS" = some (.ref aG)) (hGK:∀ H,SqT K H aG [.str (Str.ofString "add"),.str (Str.ofString "twice")]) (mlen:mg "len" = none) (mtup:mg "tuple" = none) (menum:mg "enumerate" = none):FnOk P w K mg base CX0 5 f fd ["base","copy","prices"] (spLaid K):=by
 refine F.ok scLaid (fun vs H Q E h=>?_) (fun cdv A outer s H vs Q E hr h=>?_)
 ·obtain ⟨p,q,r,es,cs,pr,rfl,_⟩:=h
  rfl
 ·obtain ⟨p,q0,r0,es,cs,pr,rfl,hp,hc,hpr,hge,hgc,hel,hcl,h7,q⟩:=h
  refine ⟨_,pss_cons (ps_set (i:=3) scLaid.nd rfl (Or.inl rfl) (pe_op op_mulL (pe_lst (pa_cons pe_non pa_nil)) (pe_callB call_len_seq (by rfl) mlen PySem.boot_len (pa_cons (pv 0) pa_nil))))
   (pss_cons (ps_set (i:=4) scLaid.nd rfl (Or.inl rfl) (pe_op op_mulL (pe_lst (pa_cons (pe_tup pa_nil) pa_nil)) (pe_op op_add (pe_callB call_len_seq (by rfl) mlen PySem.boot_len (pa_cons (pv 0) pa_nil)) pe_int)))
   (pss_cons (ps_set (i:=5) scLaid.nd rfl (Or.inl rfl) pe_int)
   (pss_cons (ps_set (i:=6) scLaid.nd rfl (Or.inl rfl) pe_non)
   (pss_cons (ps_for PassesOwn.never rfl (pi_tup (pe_call GF hr (by rfl) DF.at_ DF.fn.kp DF.bn .nil pass0 (pa_cons (pv 0) (pa_cons (pv 1) (pa_cons (pv 2) pa_nil))))) (pg_name (i:=7) scLaid.nd rfl (Or.inl rfl))
    (pss_cons (ps_set (i:=8) scLaid.nd rfl (Or.inl rfl) (pe_call GA hr (by rfl) DA.at_ DA.fn.kp DA.bn .nil passE (pa_cons (pv 0) (pa_cons (pv 5) (pa_cons (pv 6) (pa_cons (pv 7) pa_nil))))))
    (pss_cons (ps_set (i:=9) scLaid.nd rfl (Or.inl rfl) (pe_ix ix_tup (pv 8) pe_int (fun _ _=>rfl)))
    (pss_cons (ps_mid (ps_if (pt_cmpR op_in_seq (pe_ix ix_tup (pv 7) pe_int (fun _ _=>rfl)) (pe_glob (v:=.ref aG) (by rfl) mGK rfl) (by with_unfolding_all rfl))
     (pss_one (ps_asg (pe_op op_catH (pe_ix ix_list (pv 4) (pv 5) (fun _ _=>rfl)) (pv 9)) (pg_sub (pv 4) (pv 5) set_list)))
     (pss_one (ps_for PassesOwn.never rfl (pi_enum (by rfl) menum (pa_cons (pv 9) pa_nil)) (pg_tup (n:=2) rfl (pgs_cons (pg_name (i:=10) scLaid.nd rfl (Or.inl rfl)) (pgs_cons (pg_name (i:=11) scLaid.nd rfl (Or.inl rfl)) pgs_nil)))
      (pss_one (ps_asg (pv 11) (pg_sub (pv 3) (pe_op op_add (pv 5) (pv 10)) set_list)))))))
    (pss_cons (ps_set (i:=5) scLaid.nd rfl (Or.inl rfl) (pe_ix ix_tup (pv 8) pe_int (fun _ _=>rfl)))
    (pss_one (ps_set (i:=6) scLaid.nd rfl (Or.inl rfl) (pe_ifExp (pt_cmpR op_gt (pe_callB call_len_seq (by rfl) mlen PySem.boot_len (pa_cons (pv 9) pa_nil)) pe_int (nomark _)) (pe_ix ix_tup (pv 9) (pe_un un_neg pe_int) (fun _ _=>rfl)) (pv 6))))))))
   )
   (pss_one (ps_ret (pe_tup (pa_cons (pe_callTy call_tuple_of (by rfl) mtup boot_tuple (pa_cons (pv 3) pa_nil)) (pa_cons (pe_callTy call_tuple_of (by rfl) mtup boot_tuple (pa_cons (pv 4) pa_nil)) pa_nil))))))))),?_⟩
  have hle:(es.map V.str).length=es.length:=List.length_map ..
  refine ⟨few (by show 1<=_;omega),fun t0 ht0=>?_⟩
  have S1:=same_upd (o:=.lst [.non]) ht0
  refine ⟨_,rfl,p,_,rfl,.inr (sameT S1 hp),t0,.non,es.length,rfl,(by rw [hle]),upd_same,by omega,fun lp hlp=>?_⟩
  have hlpH:H lp=none:=S1.free hlp
  have S2:=S1.trans (same_upd (o:=.lst (List.replicate es.length .non)) hlp)
  have h2p:upd (upd H t0 (.lst [.non])) lp (.lst (List.replicate es.length .non)) lp=some (.lst ((lay0 es.length).P.map optS)):=by rw [upd_same,show (lay0 es.length).P=List.replicate es.length none from rfl,List.map_replicate];rfl
  generalize upd (upd H t0 (.lst [.non])) lp (.lst (List.replicate es.length .non))=H2 at S2 h2p
  refine ⟨Nat.zero_le _,fun g0 hg0=>?_⟩
  have S3:=same_upd (o:=.tup []) hg0
  refine ⟨few (by show 1<=_;omega),fun t1 ht1=>?_⟩
  have S4:=same_upd (o:=.lst [.ref g0]) ht1
  refine ⟨_,rfl,p,_,rfl,.inr (sameT ((S2.trans S3).trans S4) hp),_,_,rfl,rfl,t1,.ref g0,es.length+1,rfl,(by rw [hle];rfl),upd_same,by omega,fun lg hlg=>?_⟩
  have S5:=same_upd (o:=.lst (List.replicate (es.length+1) (V.ref g0))) hlg
  have S25:=(S3.trans S4).trans S5
  have hlg2:H2 lg=none:=(S3.trans S4).free hlg
  have hlgH:H lg=none:=S2.free hlg2
  have npg:lp ≠ lg:=fun e=>by rw [e,hlg2] at h2p;cases h2p
  have h5g:upd (upd (upd H2 g0 (.tup [])) t1 (.lst [.ref g0])) lg (.lst (List.replicate (es.length+1) (V.ref g0))) lg=some (.lst ((List.replicate (es.length+1) g0).map V.ref)):=by rw [upd_same,List.map_replicate]
  have hG5:GapsAt (upd (upd (upd H2 g0 (.tup [])) t1 (.lst [.ref g0])) lg (.lst (List.replicate (es.length+1) (V.ref g0)))) (List.replicate (es.length+1) g0) (lay0 es.length).G:=GapsAt.rep _ (S5 _ _ (S4 _ _ upd_same))
  generalize upd (upd (upd H2 g0 (.tup [])) t1 (.lst [.ref g0])) lg (.lst (List.replicate (es.length+1) (V.ref g0)))=H5 at S25 h5g hG5
  have h5p:=S25 _ _ h2p
  have S05:=S2.trans S25
  refine ⟨_,rfl,_,rfl,_,rfl,p,q0,r0,es,cs,pr,rfl,sameT S05 hp,sameT S05 hc,sameT S05 hpr,hge,hgc,hel,hcl,h7,fun H6 t ts sts R S6 ht hT hR hto hsl=>?_⟩
  refine ⟨t,rfl,⟨_,SqT.of ht⟩,for_tup (K:=K) (a:=t) (xs:=ts.map V.ref) (fun k σ H7=>∃ (j:Nat) (x:Lay) (gs:List Addr) (v7 v8 v9 v10 v11:Option V),σ=[some (.ref p),some (.ref q0),some (.ref r0),some (.ref lp),some (.ref lg),some (.int ((x.d:Nat):Int)),some (optS x.l),v7,v8,v9,v10,v11]/\LayAt es cs pr R x j (sts.drop k)/\(sts.drop k).foldl (lay1 es) x=layAll es sts/\H7 lp=some (.lst (x.P.map optS))/\H7 lg=some (.lst (gs.map V.ref))/\GapsAt H7 gs x.G/\H7 t=some (.tup (ts.map V.ref))/\TupsAt H7 ts sts/\Same H H7)
   ⟨0,lay0 es.length,List.replicate (es.length+1) g0,none,none,none,none,none,rfl,LayAt.start hto,rfl,S6 _ _ h5p,S6 _ _ h5g,hG5.mono S6,ht,hT,S05.trans S6⟩ (fun k σ H7 _ ⟨_,_,_,_,_,_,_,_,_,_,_,_,_,_,h,_⟩=>SqT.of h) ?_ ?_⟩
  ·rintro k y σ H7 hk ⟨j,x,gs,v7,v8,v9,v10,v11,rfl,hL,hfold,h7p,h7g,hG,h7t,hT7,S7⟩
   obtain ⟨a,hak,rfl⟩:=ref_at hk
   have hkl:k < sts.length:=by rw [<-hT7.len];exact (List.getElem?_eq_some_iff.mp hak).1
   obtain ⟨ha,hok⟩:=hT7.item k a _ hak (List.getElem?_eq_getElem hkl)
   rw [List.drop_eq_getElem_cons hkl] at hL hfold
   generalize sts[k]=st at *
   obtain ⟨hfit,j',hL'⟩:=hL.step
   have hA:after es x.d x.l st=some (x.d+wd st,ww es x.d x.l st):=by unfold after;rw [if_pos hfit]
   refine ⟨_,rfl,_,rfl,_,rfl,_,rfl,p,a,es,x.d,x.l,st,rfl,sameT S7 hp,SqT.of ha,hok,?_⟩
   rw [hA]
   intro u r hu hr' hne
   have S8:Same H7 (upd (upd H7 u (.tup ((ww es x.d x.l st).map V.str))) r (.tup [.int ((x.d+wd st:Nat):Int),.ref u])):=(same_upd hu).trans (same_upd (by rw [upd_ne hne];exact hr'))
   have hu8:upd (upd H7 u (.tup ((ww es x.d x.l st).map V.str))) r (.tup [.int ((x.d+wd st:Nat):Int),.ref u]) u=some (.tup ((ww es x.d x.l st).map V.str)):=by rw [upd_ne (Ne.symm hne),upd_same]
   have hr8:upd (upd H7 u (.tup ((ww es x.d x.l st).map V.str))) r (.tup [.int ((x.d+wd st:Nat):Int),.ref u]) r=some (.tup [.int ((x.d+wd st:Nat):Int),.ref u]):=upd_same
   generalize upd (upd H7 u (.tup ((ww es x.d x.l st).map V.str))) r (.tup [.int ((x.d+wd st:Nat):Int),.ref u])=H8 at S8 hu8 hr8
   refine ⟨_,rfl,r,_,_,_,rfl,rfl,SqT.of hr8,atI_nat (j:=1) rfl,?_⟩
   have h8p:=S8 _ _ h7p
   have h8g:=S8 _ _ h7g
   have h8t:=S8 _ _ h7t
   have hT8:=hT7.mono S8
   have hG8:=hG.mono S8
   have S08:=S7.trans S8
   refine ⟨fun σ' H'=>∃ (gs':List Addr) (v10 v11:Option V),σ'=[some (.ref p),some (.ref q0),some (.ref r0),some (.ref lp),some (.ref lg),some (.int ((x.d:Nat):Int)),some (optS x.l),some (.ref a),some (.ref r),some (.ref u),v10,v11]/\H' lp=some (.lst ((lay1 es x st).P.map optS))/\H' lg=some (.lst (gs'.map V.ref))/\GapsAt H' gs' (lay1 es x st).G/\H' t=some (.tup (ts.map V.ref))/\TupsAt H' ts sts/\Same H H'/\H' u=some (.tup ((ww es x.d x.l st).map V.str))/\H' r=some (.tup [.int ((x.d+wd st:Nat):Int),.ref u]),?_,?_⟩
   ·refine ⟨_,rfl,a,_,_,_,rfl,rfl,SqT.of (S8 _ _ ha),kind_at st,aG,_,rfl,.inr (hGK _),rfl,rfl,_,rfl,ite2 (fun h=>?_) (fun h=>?_)⟩
    ·have hg:isGap st=true:=by rw [<-kind_gap];exact h
     have hdl:x.d < x.G.length:=by rw [hL.gl];have:=hL.di;omega
     obtain ⟨g,eg,ag,hgv⟩:=hG8.at hdl
     have hgl:=gap_len hL
     have hwl:=ww_len es x.d x.l st
     refine ⟨_,rfl,_,rfl,lg,_,_,_,rfl,rfl,SqL.of h8g,ag,_,rfl,g,u,_,_,rfl,rfl,hgv,hu8,(by rw [List.length_map,List.length_map];exact few (by omega)),fun r4 H9 S9 hr4=>?_⟩
     have h9g:=S9 _ _ h8g
     have keep:∀ {b:Addr} {ys zs:List V},H9 b=some (.tup ys)->upd H9 lg (.lst zs) b=some (.tup ys):=fun {b ys zs} h=>by
      rw [upd_ne (ne_of h h9g (by intro z;cases z))];exact h
     refine ⟨_,rfl,_,rfl,lg,_,_,x.d,rfl,rfl,h9g,ixN_nat (by rw [List.length_map,hG8.len];exact hdl),gs.set x.d r4,v10,v11,rfl,?_,?_,?_,keep (S9 _ _ h8t),(hT8.mono S9).set h9g,same_to (S08.trans S9) hlgH,keep (S9 _ _ hu8),keep (S9 _ _ hr8)⟩
     ·rw [upd_ne npg,S9 _ _ h8p,show (lay1 es x st).P=x.P from if_pos hg]
     ·rw [upd_same,List.map_set]
     ·rw [show (lay1 es x st).G=x.G.set x.d (gAt x.G x.d++ww es x.d x.l st) from if_pos hg]
      exact ((hG8.mono S9).put (by rw [hr4,List.map_append])).over h9g
    ·have hg:¬ isGap st=true:=fun z=>h (by rw [<-kind_gap] at z;exact z)
     have hgf:isGap st=false:=by cases hz:isGap st with
      | false=>rfl
      | true=>exact absurd hz hg
     have hroom:=(fits_room hfit hgf).2 hL.di
     refine ⟨_,rfl,u,rfl,⟨_,SqT.of hu8⟩,for_enum (K:=K) (a:=u) (xs:=(ww es x.d x.l st).map V.str) (fun i σ' H'=>∃ (v10 v11:Option V),σ'=[some (.ref p),some (.ref q0),some (.ref r0),some (.ref lp),some (.ref lg),some (.int ((x.d:Nat):Int)),some (optS x.l),some (.ref a),some (.ref r),some (.ref u),v10,v11]/\H' lp=some (.lst ((layPut x.P x.d ((ww es x.d x.l st).take i)).map optS))/\H' lg=some (.lst (gs.map V.ref))/\GapsAt H' gs x.G/\H' t=some (.tup (ts.map V.ref))/\TupsAt H' ts sts/\Same H H'/\H' u=some (.tup ((ww es x.d x.l st).map V.str))/\H' r=some (.tup [.int ((x.d+wd st:Nat):Int),.ref u]))
      ⟨v10,v11,rfl,by rw [List.take_zero];exact h8p,h8g,hG8,h8t,hT8,S08,hu8,hr8⟩ (fun i σ' H' _ ⟨_,_,_,_,_,_,_,_,_,h,_⟩=>SqT.of h) ?_ ?_⟩
     ·rintro i y σ' H9 T hi ⟨v10',v11',rfl,h9p,h9g,hG9,h9t,hT9,S9,hu9,hr9⟩ hTn
      rw [List.getElem?_map] at hi
      obtain ⟨z,hz,rfl⟩:=Option.map_eq_some_iff.mp hi
      have hil:i < (ww es x.d x.l st).length:=(List.getElem?_eq_some_iff.mp hz).1
      have T1:=same_upd (o:=.tup [.int ((i:Nat):Int),.str z]) hTn
      have hTT:upd H9 T (.tup [.int ((i:Nat):Int),.str z]) T=some (.tup [.int ((i:Nat):Int),.str z]):=upd_same
      generalize upd H9 T (.tup [.int ((i:Nat):Int),.str z])=H10 at T1 hTT
      have h10p:=T1 _ _ h9p
      have keep:∀ {b:Addr} {ys zs:List V},H10 b=some (.tup ys)->upd H10 lp (.lst zs) b=some (.tup ys):=fun {b ys zs} h=>by
       rw [upd_ne (ne_of h h10p (by intro z;cases z))];exact h
      refine ⟨_,_,rfl,SqT.of hTT,rfl,_,_,rfl,_,_,rfl,rfl,?_⟩
      refine ⟨_,rfl,_,rfl,_,rfl,_,rfl,_,_,rfl,rfl,lp,_,_,x.d+i,rfl,rfl,h10p,(by rw [<-Int.natCast_add];exact ixN_nat (by rw [List.length_map,layPut_len,hL.pl];omega)),some (.int ((i:Nat):Int)),some (.str z),rfl,?_,by rw [upd_ne (Ne.symm npg)];exact T1 _ _ h9g,(hG9.mono T1).over h10p,keep (T1 _ _ h9t),(hT9.mono T1).set h10p,same_to (S9.trans T1) hlpH,keep (T1 _ _ hu9),keep (T1 _ _ hr9)⟩
      have ez:z=(ww es x.d x.l st)[i]:=by rw [List.getElem?_eq_getElem hil] at hz;exact (Option.some.inj hz).symm
      rw [upd_same,List.take_succ_eq_append_getElem hil,layPut_snoc,List.map_set,List.length_take,Nat.min_eq_left (Nat.le_of_lt hil),<-ez]
      rfl
     ·rintro σ' H9 ⟨v10',v11',rfl,h9p,h9g,hG9,h9t,hT9,S9,hu9,hr9⟩
      rw [List.length_map,List.take_length] at h9p
      exact ⟨gs,v10',v11',rfl,by rw [h9p,show (lay1 es x st).P=layPut x.P x.d (ww es x.d x.l st) from if_neg hg],h9g,by rw [show (lay1 es x st).G=x.G from if_neg hg];exact hG9,h9t,hT9,S9,hu9,hr9⟩
   ·rintro σ' H9 ⟨gs',v10',v11',rfl,h9p,h9g,hG9,h9t,hT9,S9,hu9,hr9⟩
    refine ⟨_,rfl,r,_,_,_,rfl,rfl,SqT.of hr9,atI_nat (j:=0) rfl,?_⟩
    refine ⟨_,rfl,u,_,rfl,.inr (SqT.of hu9),_,_,rfl,rfl,_,rfl,?_⟩
    have hlw:((ww es x.d x.l st).map V.str).length=(ww es x.d x.l st).length:=List.length_map ..
    cases hlast:(ww es x.d x.l st).getLast? with
    | none=>
     have hnil:ww es x.d x.l st=[]:=List.getLast?_eq_none_iff.mp hlast
     have el:(lay1 es x st).l=x.l:=by show lastOr _ _=_;unfold lastOr;rw [hlast]
     refine iteK (by rw [hlw,hnil];decide) ⟨_,rfl,j',lay1 es x st,gs',some (.ref a),some (.ref r),some (.ref u),v10',v11',?_,hL',hfold,h9p,h9g,hG9,h9t,hT9,S9⟩
     rw [el]
     rfl
    | some z=>
     have hpos:0 < (ww es x.d x.l st).length:=by
      cases hw0:ww es x.d x.l st with
      | nil=>rw [hw0] at hlast;cases hlast
      | cons _ _=>exact Nat.succ_pos _
     have el:(lay1 es x st).l=some z:=by show lastOr _ _=_;unfold lastOr;rw [hlast]
     have al:atI ((ww es x.d x.l st).map V.str) (-1)=some (.str z):=atI_last (by rw [List.length_map,List.getElem?_map,<-List.getLast?_eq_getElem?,hlast];rfl) (by rw [hlw];exact hpos)
     refine iteY (by rw [hlw];omega) ⟨_,rfl,_,rfl,u,_,_,_,rfl,rfl,SqT.of hu9,al,j',lay1 es x st,gs',some (.ref a),some (.ref r),some (.ref u),v10',v11',?_,hL',hfold,h9p,h9g,hG9,h9t,hT9,S9⟩
     rw [el]
     rfl
  ·rintro σ H7 ⟨j,x,gs,v7,v8,v9,v10,v11,rfl,hL,hfold,h7p,h7g,hG,h7t,hT7,S7⟩
   rw [List.length_map,hT7.len,List.drop_length] at hL hfold
   have hfold:x=layAll es sts:=hfold
   subst hfold
   refine ⟨_,rfl,lp,_,rfl,.inl ⟨SqL.of h7p,fun a ha=>?_⟩⟩
   have T1:=same_upd (o:=.tup ((layAll es sts).P.map optS)) ha
   refine ⟨_,rfl,lg,_,rfl,.inl ⟨SqL.of (T1 _ _ h7g),fun b hb=>?_⟩⟩
   have T2:=same_upd (o:=.tup (gs.map V.ref)) hb
   refine ⟨few (by show 2<=_;omega),fun x hx=>?_⟩
   have T3:=same_upd (o:=.tup [.ref a,.ref b]) hx
   exact q _ x a b gs sts R (((S7.trans T1).trans T2).trans T3) upd_same (T3 _ _ (T2 _ _ upd_same)) (T3 _ _ upd_same) (hG.mono ((T1.trans T2).trans T3)) hR hto
theorem rd_has {P:List (Option Str)} {G:List (List Str)}:∀ (k i:Nat),i < k->(gAt G i).length<=(rd P G k).length
 | k+1,i,h=>by
  show _<=(rd P G k++gAt G k++((P[k]?).join).toList).length
  rw [List.length_append,List.length_append]
  rcases Nat.lt_or_ge i k with c | c
  ·have:=rd_has (P:=P) (G:=G) k i c
   omega
  ·obtain rfl:i=k:=by omega
   omega
theorem gap_small {es cs:List Str} {pr:List Int} {R:Nat->Nat->Int} {sts:List Sk} (h:Told es cs pr R 0 0 sts) {z:List Str} (hz:z ∈ (layAll es sts).G):z.length<=cs.length:=by
 obtain ⟨h1,h2,h3⟩:=laid_all h
 obtain ⟨i,hi,rfl⟩:=List.mem_iff_getElem.mp hz
 have e:gAt (layAll es sts).G i=(layAll es sts).G[i]:=by unfold gAt;rw [List.getElem?_eq_getElem hi];rfl
 have hl:=congrArg List.length h3
 rw [List.length_append] at hl
 rw [<-e]
 rcases Nat.lt_or_ge i es.length with c | c
 ·have:=rd_has (P:=(layAll es sts).P) (G:=(layAll es sts).G) es.length i c
  omega
 ·obtain rfl:i=es.length:=by omega
  omega
def LaidOf (es cs:List Str) (pr:List Int) (L:LPG):Prop:=∃ (sts:List Sk) (R:Nat->Nat->Int),Rest (fun i st=>price es i pr st) es.length cs.length (ways es cs) R/\Told es cs pr R 0 0 sts/\L=((layAll es sts).P,(layAll es sts).G)
theorem LaidOf.uniq {es cs:List Str} {pr:List Int} {L L':LPG} (h:LaidOf es cs pr L) (h':LaidOf es cs pr L'):L=L':=by
 obtain ⟨sts,R,h1,h2,rfl⟩:=h
 obtain ⟨sts',R',h1',h2',rfl⟩:=h'
 rw [told_uniq h1 h1' sts sts' 0 0 (Nat.zero_le _) (Nat.zero_le _) h2 h2']
theorem LaidOf.len {es cs:List Str} {pr:List Int} {L:LPG} (h:LaidOf es cs pr L):L.1.length=es.length/\L.2.length=es.length+1/\rd L.1 L.2 es.length++gAt L.2 es.length=cs:=by
 obtain ⟨sts,R,h1,h2,rfl⟩:=h
 exact laid_all h2
theorem LaidOf.small {es cs:List Str} {pr:List Int} {L:LPG} (h:LaidOf es cs pr L) {z:List Str} (hz:z ∈ L.2):z.length<=cs.length:=by
 obtain ⟨sts,R,h1,h2,rfl⟩:=h
 exact gap_small h2 hz
theorem LaidOf.gap {es cs:List Str} {pr:List Int} {L:LPG} (h:LaidOf es cs pr L) (i:Nat):(gAt L.2 i).length<=cs.length:=by
 unfold gAt
 cases e:L.2[i]? with
 | none=>exact Nat.zero_le _
 | some z=>exact h.small (List.mem_of_getElem? e)
structure LaidAll (es:List Str) (pr:List Int) (css:List (List Str)) (Ls:List LPG):Prop where
 len:Ls.length=css.length
 item:∀ (i:Nat) (cs:List Str) (L:LPG),css[i]?=some cs->Ls[i]?=some L->LaidOf es cs pr L
theorem LaidAll.uniq {es:List Str} {pr:List Int} {css:List (List Str)} {Ls Ls':List LPG} (h:LaidAll es pr css Ls) (h':LaidAll es pr css Ls'):Ls=Ls':=by
 apply List.ext_getElem?
 intro i
 by_cases hi:i < css.length
 ·have h1:i < Ls.length:=by rw [h.len];exact hi
  have h2:i < Ls'.length:=by rw [h'.len];exact hi
  rw [List.getElem?_eq_getElem h1,List.getElem?_eq_getElem h2,(h.item i _ _ (List.getElem?_eq_getElem hi) (List.getElem?_eq_getElem h1)).uniq (h'.item i _ _ (List.getElem?_eq_getElem hi) (List.getElem?_eq_getElem h2))]
 ·rw [List.getElem?_eq_none (by rw [h.len];omega),List.getElem?_eq_none (by rw [h'.len];omega)]
theorem LaidAll.mem {es:List Str} {pr:List Int} {css:List (List Str)} {Ls:List LPG} (h:LaidAll es pr css Ls) {L:LPG} (hL:L ∈ Ls):∃ cs ∈ css,LaidOf es cs pr L:=by
 obtain ⟨i,hi,rfl⟩:=List.mem_iff_getElem.mp hL
 have h1:i < css.length:=by rw [<-h.len];exact hi
 exact ⟨css[i],List.getElem_mem h1,h.item i _ _ (List.getElem?_eq_getElem h1) (List.getElem?_eq_getElem hi)⟩
def spEntry:Sp:=fun vs H Q _=>∃ (t:Addr) (z:List Str) (k:Nat),vs=[.ref t,.int ((k:Nat):Int)]/\H t=some (.tup (z.map V.str))/\Q (optS z[k]?) H
theorem scEntry:FnScope ["words","place"] ["words","place"] (defScope sEntry):=⟨rfl,rfl,rfl,by decide +kernel,rfl,by decide +kernel,by decide +kernel⟩
theorem ok_entry {f:Addr} {fd:FuncData} (F:Fun K "entry_at" "entry_at" sEntry f fd) (mlen:mg "len" = none):FnOk P w K mg base CX0 1 f fd ["words","place"] spEntry:=by
 refine Fun.okR F scEntry (fun vs H Q E h=>?_) (fun cdv A outer s H vs Q Q2 E hr h hq=>?_)
 ·obtain ⟨t,z,k,rfl,_⟩:=h
  rfl
 ·obtain ⟨t,z,k,rfl,ht,q⟩:=h
  refine ⟨_,pss_one (ps_ret (pe_ifExp (pt_cmpR op_lt (pv 1) (pe_callB call_len_seq (by rfl) mlen PySem.boot_len (pa_cons (pv 0) pa_nil)) (nomark _)) (pe_ix ix_tup (pv 0) (pv 1) (fun _ _=>rfl)) pe_non)),?_⟩
  have lz:(z.map V.str).length=z.length:=List.length_map ..
  refine ⟨_,rfl,_,rfl,t,_,rfl,.inr (SqT.of ht),_,_,rfl,rfl,_,rfl,?_⟩
  rw [lz]
  by_cases hk:k < z.length
  ·rw [List.getElem?_eq_getElem hk] at q
   exact iteY (by omega) ⟨_,rfl,_,rfl,t,_,_,_,rfl,rfl,SqT.of ht,atI_nat (by rw [List.getElem?_map,List.getElem?_eq_getElem hk];rfl),hq _ _ (Rst.same (Same.refl H) q)⟩
  ·rw [List.getElem?_eq_none (by omega)] at q
   exact iteK (by omega) (hq _ _ (Rst.same (Same.refl H) q))
def WordsAt (H:Hp) (xs:List (Addr × List Str)):Prop:=∀ x ∈ xs,H x.1=some (.tup (x.2.map V.str))/\x.2.length<=100
theorem WordsAt.mono {H H':Hp} {xs:List (Addr × List Str)} (S:Same H H') (h:WordsAt H xs):WordsAt H' xs:=fun x hx=>⟨S _ _ (h x hx).1,(h x hx).2⟩
def spGapC (K:PySem.W.Frag):Sp:=fun vs H Q _=>∃ (l:Addr) (xs:List (Addr × List Str)),vs=[.ref l]/\H l=some (.lst (xs.map fun x=>V.ref x.1))/\WordsAt H xs/\xs.length<=100 ∧
 ∀ (H':Hp) (r:Addr) (as:List Addr),Same H H'->H r=none->H' r=some (.lst (as.map V.ref))->ColumnsAt H' as (gapCols (xs.map fun x=>x.2))->Q (.ref r) H'
theorem rmax_wide {H:Hp} {p:Addr} {ws:List (List Str)} {Q:VK} (h:SqL K H p ((ws.map fun z=>((z.length:Nat):Int)).map V.int)) (q:Q (.int ((wide ws:Nat):Int)) H):rMaxD K (.ref p) H Q:=
 ⟨p,_,rfl,h,fun e=>by
  have:ws=[]:=List.map_eq_nil_iff.mp e
  rw [this] at q
  exact q,fun m hm hle=>by rw [wide_eq hm hle];exact q⟩
theorem scGapC:FnScope ["gap","wide"] ["gap"] (defScope sGapC):=⟨rfl,rfl,rfl,by decide +kernel,rfl,by decide +kernel,by decide +kernel⟩
theorem nd_words:(["words"]:List Str).Nodup:=by decide +kernel
theorem nd_plga:(["place","gap"]:List Str).Nodup:=by decide +kernel
theorem nd_wopl:(["words","place"]:List Str).Nodup:=by decide +kernel
theorem call_tuple_ofK2 {X:Cx} {K:PySem.W.Frag} (hK:X.K=K):CallR X (.type "tuple") (fun xs H Q=>∃ p ys,xs=[.ref p]/\((SqL K H p ys/\∀ l,H l=none->Q (.ref l) (upd H l (.tup ys)))\/(SqT K H p ys/\Q (.ref p) H))):=by subst hK;exact call_tuple_of
theorem ok_gapc {f gE:Addr} {fd dE:FuncData} (F:Fun K "gap_columns" "gap_columns" sGapC f fd) (DE:Dfn K mg "entry_at" sEntry gE dE ["words","place"]) (mlen:mg "len" = none) (mtup:mg "tuple" = none) (mrange:mg "range" = none) (mmax:mg "max" = none):FnOk P w K mg base CX0 2 f fd ["gap"] (spGapC K):=by
 have GE:FnOk P w K mg base CX0 1 gE dE ["words","place"] spEntry:=ok_entry DE.fn mlen
 refine F.ok scGapC (fun vs H Q E h=>?_) (fun cdv A outer s H vs Q E hr h=>?_)
 ·obtain ⟨l,xs,rfl,_⟩:=h
  rfl
 ·obtain ⟨l,xs,rfl,hl,hW,hxl,q⟩:=h
  refine ⟨_,pss_cons (ps_set (i:=1) scGapC.nd rfl (Or.inl rfl) (pe_maxD rfl (by rfl) mmax (pe_comp (Nc:=["words"]) (mp:=[none]) rfl (CompOk.of (by rfl)) (pi_list (pv 0)) (fun cl C s H fp=>⟨pg_name (i:=0) nd_words rfl (Or.inl rfl),pts_nil,(pe_callB (call_len_seqK (K:=K) rfl) (by rfl) mlen PySem.boot_len (pa_cons (pv 0) pa_nil))⟩))))
   (pss_one (ps_ret (pe_compC (Nc:=["place","gap"]) (mp:=[none,some 0]) (x0 := "place") rfl (CompOkC.of (fun _ _=>rfl) (fun _=>rfl) (by rfl)) (pi_range1 (by rfl) mrange (pa_cons (pv 1) pa_nil)) (fun c0 cl C s H fp=>⟨pg_name (i:=0) nd_plga rfl (Or.inr rfl) (Or.inl (beq_self_eq_true _)),pts_nil,(pe_op op_catH (pe_tup (pa_cons pe_non pa_nil)) (pe_callTy (call_tuple_ofK2 (K:=K) rfl) (by rfl) mtup boot_tuple (pa_cons (pe_comp (Nc:=["words","place"]) (mp:=[none,some 0]) rfl (CompOk.of (by rfl)) (pi_listK (K:=K) rfl (pv 1)) (fun cl C s H fp=>⟨pg_name (i:=0) nd_wopl rfl (Or.inl rfl),pts_nil,(pe_call GE hr (by rfl) DE.at_ DE.fn.kp DE.bn .nil pass0 (pa_cons (pv 0) (pa_cons (pv 1) pa_nil)))⟩)) pa_nil)))⟩)))),?_⟩
  have hmap:(xs.map fun x=>x.2).map (fun z=>((z.length:Nat):Int))=xs.map fun x=>((x.2.length:Nat):Int):=by rw [List.map_map];rfl
  refine ⟨_,rfl,l,rfl,⟨_,SqL.of hl⟩,comp_map (as:=xs) (v:=fun x=>V.ref x.1) (fun x=>.int ((x.2.length:Nat):Int)) (src_list (SqL.of hl)) (few (by omega)) (fun x hx k hk=>?_) (fun D hD=>?_)⟩
  ·exact ⟨_,rfl,x.1,_,rfl,.inr (SqT.of (hW x hx).1),by rw [List.length_map];exact hk⟩
  have S1:=same_upd (o:=.lst (xs.map fun x=>V.int ((x.2.length:Nat):Int))) hD
  have hW1:=hW.mono S1
  have hl1:=S1 _ _ hl
  have hD1:upd H D (.lst (xs.map fun x=>V.int ((x.2.length:Nat):Int))) D=some (.lst ((xs.map fun x=>((x.2.length:Nat):Int)).map V.int)):=by rw [upd_same,List.map_map];rfl
  generalize upd H D (.lst (xs.map fun x=>V.int ((x.2.length:Nat):Int)))=H1 at S1 hW1 hl1 hD1
  have hwd:wide (xs.map fun x=>x.2)<=100:=wide_le fun z hz=>by
   obtain ⟨x,hx,rfl⟩:=List.mem_map.mp hz
   exact (hW x hx).2
  refine rmax_wide (ws:=xs.map fun x=>x.2) (SqL.of (by rw [hmap];exact hD1)) ?_
  generalize ew:wide (xs.map fun x=>x.2)=n at hwd
  refine ⟨_,rfl,_,rfl,by omega,by omega,?_⟩
  rw [Int.toNat_natCast]
  refine comp_grow (as:=List.range n) (v:=fun k=>.int (0+((k:Nat):Int))) (fun i acc H'=>∃ as:List Addr,acc=as.map V.ref/\as.length=i/\ColumnsAt H' as ((List.range i).map (gapCol (xs.map fun x=>x.2)))/\Same H1 H')
   (fun i acc H' _ _=>src_range 0 n H') (by rw [List.length_range];exact few (by omega)) ⟨[],rfl,rfl,ColumnsAt.nil,Same.refl _⟩ (fun i acc H' ⟨as,e,hl,_⟩=>by rw [e,List.length_map,hl]) ?_ ?_
  ·rintro i k acc H' hk ⟨as,rfl,hal,hC,S⟩ kk hkk
   have hki:k=i:=by
    have h1:=(List.getElem?_eq_some_iff.mp hk)
    obtain ⟨h1,h2⟩:=h1
    rw [List.getElem_range] at h2
    exact h2.symm
   subst hki
   have ei:(0:Int)+((k:Nat):Int)=((k:Nat):Int):=by omega
   rw [ei]
   refine ⟨few (by show 1<=_;omega),fun t0 ht0=>?_⟩
   have T0:=same_upd (o:=.tup [.non]) ht0
   have hW2:=hW1.mono (S.trans T0)
   refine ⟨_,rfl,l,rfl,⟨_,SqL.of ((S.trans T0) _ _ hl1)⟩,comp_map (as:=xs) (v:=fun x=>V.ref x.1) (fun x=>optS x.2[k]?) (src_list (SqL.of ((S.trans T0) _ _ hl1))) (few (by omega)) (fun x hx k2 hk2=>?_) (fun D2 hD2=>?_)⟩
   ·exact ⟨_,rfl,_,rfl,x.1,x.2,k,rfl,(hW2 x hx).1,hk2⟩
   have T1:=same_upd (o:=.lst (xs.map fun x=>optS x.2[k]?)) hD2
   refine ⟨D2,_,rfl,.inl ⟨SqL.of upd_same,fun t1 ht1=>?_⟩⟩
   have T2:=same_upd (o:=.tup (xs.map fun x=>optS x.2[k]?)) ht1
   refine ⟨t0,t1,_,_,rfl,rfl,T2 _ _ (T1 _ _ upd_same),upd_same,(by rw [List.length_map];exact few (by show 1+_<=_;omega)),fun r H3 S3 hr3=>?_⟩
   have S4:=((T0.trans T1).trans T2).trans S3
   refine hkk _ _ ⟨as++[r],by rw [List.map_append];rfl,by rw [List.length_append,hal];rfl,?_,S.trans S4⟩
   rw [List.range_succ,List.map_append]
   refine (hC.mono S4).app (ColumnsAt.one (c:=gapCol (xs.map fun x=>x.2) k) ?_)
   rw [hr3]
   show _=some (HO.tup (optS none :: ((xs.map fun x=>x.2).map fun z=>z[k]?).map optS))
   rw [List.map_map,List.map_map]
   rfl
  ·rintro acc H' ⟨as,rfl,hal,hC,S⟩ D3 hD3
   rw [List.length_range] at hC
   have T3:=same_upd (o:=.lst (as.map V.ref)) hD3
   refine q _ D3 as ((S1.trans S).trans T3) ((S1.trans S).free hD3) upd_same ?_
   have e:gapCols (xs.map fun x=>x.2)=(List.range n).map (gapCol (xs.map fun x=>x.2)):=by unfold gapCols;rw [ew]
   rw [e]
   exact hC.mono T3
def RowsAt (H:Hp) (qs:List (Addr × List Str)):Prop:=∀ x ∈ qs,H x.1=some (.tup (x.2.map V.str))/\(∀ z ∈ x.2,Good z)/\x.2.length<=50
theorem RowsAt.mono {H H':Hp} {qs:List (Addr × List Str)} (S:Same H H') (h:RowsAt H qs):RowsAt H' qs:=fun x hx=>⟨S _ _ (h x hx).1,(h x hx).2⟩
def spColl (K:PySem.W.Frag):Sp:=fun vs H Q _=>∃ (p q r:Addr) (es:List Str) (qs:List (Addr × List Str)) (pr:List Int),vs=[.ref p,.ref q,.ref r]/\SqT K H p (es.map V.str)/\H q=some (.tup (qs.map fun x=>V.ref x.1))/\RowsAt H qs/\SqT K H r (pr.map V.int)/\(∀ z ∈ es,Good z)/\es.length<=50/\qs.length<=50/\pr.length=7 ∧
 ∀ (H':Hp) (t:Addr) (as:List Addr) (Ls:List LPG),Same H H'->H' t=some (.tup (as.map V.ref))->ColumnsAt H' as (colsOf es Ls)->LaidAll es pr (qs.map fun x=>x.2) Ls->Q (.ref t) H'
theorem scColl:FnScope ["base","copies","prices","laid","columns","number"] ["base","copies","prices"] (defScope sColl):=⟨rfl,rfl,rfl,by decide +kernel,rfl,by decide +kernel,by decide +kernel⟩
theorem nd_cbp:(["copy","base","prices"]:List Str).Nodup:=by decide +kernel
theorem nd_pgn:(["places","gaps","number"]:List Str).Nodup:=by decide +kernel
theorem pg_tupC {X:Cx} {es:List Expr} {k:Nat} {t:TGs} {n:Nat} {pos:Pos} (hK:X.K=K) (hc:X.calm=true) (h:PGs X es t)
  (hn:(assignEach es X.env).length=n:=by rfl) (hst:(assignEach es X.env).findIdx? (·.1)=none:=by rfl):PG X (.Tuple es k pos) (gTup K n t):=by
 subst hK;exact pg_tup hc h hn hst
def LsAt (H:Hp) (n:Nat) (rs:List LRec):Prop:=∀ r ∈ rs,LRecAt H n r
theorem LsAt.mono {H H':Hp} {n:Nat} {rs:List LRec} (S:Same H H') (h:LsAt H n rs):LsAt H' n rs:=fun r hr=>LaidAt.mono S (h r hr)
theorem gaps_of (rs:List LRec) (i:Nat):(rs.map fun r=>(gAddr r i,gAt r.L.2 i)).map (fun x=>x.2)=gapsIn (rs.map fun r=>r.L) i:=by
 unfold gapsIn
 rw [List.map_map,List.map_map]
 rfl
theorem LaidAll.nil {es:List Str} {pr:List Int}:LaidAll es pr [] []:=⟨rfl,fun i cs L e _=>by simp at e⟩
theorem LaidAll.app {es:List Str} {pr:List Int} {css:List (List Str)} {Ls:List LPG} {cs:List Str} {L:LPG} (h:LaidAll es pr css Ls) (h2:LaidOf es cs pr L):LaidAll es pr (css++[cs]) (Ls++[L]):=by
 refine ⟨by rw [List.length_append,List.length_append,h.len];rfl,fun i c l e1 e2=>?_⟩
 by_cases hi:i < css.length
 ·rw [List.getElem?_append_left hi] at e1
  rw [List.getElem?_append_left (by rw [h.len];exact hi)] at e2
  exact h.item i c l e1 e2
 ·rw [List.getElem?_append_right (by omega)] at e1
  rw [List.getElem?_append_right (by rw [h.len];omega),h.len] at e2
  have h0:i - css.length=0:=by
   have:=(List.getElem?_eq_some_iff.mp e1).1
   simp at this
   omega
  rw [h0] at e1 e2
  cases e1
  cases e2
  exact h2
theorem ok_coll {f gL gG:Addr} {fd dL dG:FuncData} (F:Fun K "collated" "collated" sColl f fd) (DL:Dfn K mg "laid_words" sLaid gL dL ["base","copy","prices"]) (GL:FnOk P w K mg base CX0 5 gL dL ["base","copy","prices"] (spLaid K)) (DG:Dfn K mg "gap_columns" sGapC gG dG ["gap"]) (GG:FnOk P w K mg base CX0 5 gG dG ["gap"] (spGapC K)) (mlen:mg "len" = none) (mtup:mg "tuple" = none) (mrange:mg "range" = none):FnOk P w K mg base CX0 6 f fd ["base","copies","prices"] (spColl K):=by
 refine F.ok scColl (fun vs H Q E h=>?_) (fun cdv A outer s H vs Q E hr h=>?_)
 ·obtain ⟨p,q,r,es,qs,pr,rfl,_⟩:=h
  rfl
 ·obtain ⟨p,q0,r0,es,qs,pr,rfl,hp,hq0,hQ,hpr,hge,hel,hql,h7,q⟩:=h
  refine ⟨_,pss_cons (ps_setC (i:=3) (Nc:=["copy","base","prices"]) (mp:=[none,some 0,some 2]) rfl scColl.nd rfl rfl (CompOk.of (by rfl)) (pi_tup (pv 1)) (fun cl C s H fp=>⟨pg_name (i:=0) nd_cbp rfl (Or.inl rfl),pts_nil,(pe_call GL hr (by rfl) DL.at_ DL.fn.kp DL.bn .nil pass0 (pa_cons (pv 1) (pa_cons (pv 0) (pa_cons (pv 2) pa_nil))))⟩))
   (pss_cons (ps_set (i:=4) scColl.nd rfl (Or.inl rfl) (pe_lst pa_nil))
   (pss_cons (ps_for PassesOwn.never rfl (pi_range1 (by rfl) mrange (pa_cons (pe_op op_add (pe_callB call_len_seq (by rfl) mlen PySem.boot_len (pa_cons (pv 0) pa_nil)) pe_int) pa_nil)) (pg_name (i:=5) scColl.nd rfl (Or.inr rfl))
   (pss_cons (ps_expr (pe_bm PySem.F.plainAttrs_list PySem.F.slot_list_extend PySem.F.type_list_extend mt_extend (pv 4) (pa_cons (pe_call GG hr (by rfl) DG.at_ DG.fn.kp DG.bn .nil pass0 (pa_cons (pe_comp (Nc:=["places","gaps","number"]) (mp:=[none,none,some 5]) rfl (CompOk.of (by rfl)) (pi_list (pv 3)) (fun cl C s H fp=>⟨pg_tupC (K:=K) (n:=2) rfl rfl (pgs_cons (pg_name (i:=0) nd_pgn rfl (Or.inl rfl)) (pgs_cons (pg_name (i:=1) nd_pgn rfl (Or.inl rfl)) pgs_nil)),pts_nil,(pe_ix (ix_tupK (K:=K) rfl) (pv 1) (pv 2) (fun _ _=>rfl))⟩)) pa_nil)) pa_nil)))
   (pss_one (ps_if (pt_cmpR op_lt (pv 5) (pe_callB call_len_seq (by rfl) mlen PySem.boot_len (pa_cons (pv 0) pa_nil)) (nomark _)) (pss_one (ps_expr (pe_bm PySem.F.plainAttrs_list PySem.F.slot_list_append PySem.F.type_list_append mt_append (pv 4) (pa_cons (pe_op op_catH (pe_tup (pa_cons (pe_ix ix_tup (pv 0) (pv 5) (fun _ _=>rfl)) pa_nil)) (pe_callTy call_tuple_of (by rfl) mtup boot_tuple (pa_cons (pe_comp (Nc:=["places","gaps","number"]) (mp:=[none,none,some 5]) rfl (CompOk.of (by rfl)) (pi_list (pv 3)) (fun cl C s H fp=>⟨pg_tupC (K:=K) (n:=2) rfl rfl (pgs_cons (pg_name (i:=0) nd_pgn rfl (Or.inl rfl)) (pgs_cons (pg_name (i:=1) nd_pgn rfl (Or.inl rfl)) pgs_nil)),pts_nil,(pe_ix (ix_tupK (K:=K) rfl) (pv 0) (pv 2) (fun _ _=>rfl))⟩)) pa_nil))) pa_nil)))) pss_nil))))
   (pss_one (ps_ret (pe_callTy call_tuple_of (by rfl) mtup boot_tuple (pa_cons (pv 4) pa_nil)))))),?_⟩
  have hle:(es.map V.str).length=es.length:=List.length_map ..
  refine ⟨_,rfl,q0,rfl,⟨_,SqT.of hq0⟩,comp_grow (as:=qs) (v:=fun x=>V.ref x.1) (fun i acc H'=>∃ rs:List LRec,acc=rs.map (fun r=>V.ref r.x)/\rs.length=i/\LsAt H' es.length rs/\LaidAll es pr ((qs.take i).map fun x=>x.2) (rs.map fun r=>r.L)/\Same H H')
   (fun i acc H' _ ⟨_,_,_,_,_,S⟩=>src_tup (SqT.of (S _ _ hq0))) (few (by omega)) ⟨[],rfl,rfl,(fun _ z=>nomatch z),by rw [List.take_zero];exact LaidAll.nil,Same.refl _⟩ (fun i acc H' ⟨rs,e,hl,_⟩=>by rw [e,List.length_map,hl]) ?_ ?_⟩
  ·rintro i x acc H' hx ⟨rs,rfl,hrl,hR,hA,S⟩ kk hkk
   have hxm:=List.mem_of_getElem? hx
   have hil:i < qs.length:=(List.getElem?_eq_some_iff.mp hx).1
   obtain ⟨hx1,hx2,hx3⟩:=hQ x hxm
   refine ⟨_,rfl,_,rfl,_,rfl,p,x.1,r0,es,x.2,pr,rfl,sameT S hp,SqT.of (S _ _ hx1),sameT S hpr,hge,hx2,by omega,by omega,h7,fun H2 y a b gs sts R S2 hy ha hb hG hRs hto=>?_⟩
   have hO:LaidOf es x.2 pr ((layAll es sts).P,(layAll es sts).G):=⟨sts,R,hRs,hto,rfl⟩
   have hlen:=hO.len
   refine hkk _ _ ⟨rs++[⟨y,a,b,gs,((layAll es sts).P,(layAll es sts).G)⟩],by rw [List.map_append];rfl,by rw [List.length_append,hrl];rfl,fun r hr'=>?_,?_,S.trans S2⟩
   ·rcases List.mem_append.mp hr' with h | h
    ·exact LaidAt.mono S2 (hR r h)
    ·rw [List.mem_singleton.mp h]
     exact ⟨hy,ha,hb,hG,hlen.1,hlen.2.1,fun z hz=>by have:=hO.small hz;omega⟩
   ·rw [List.take_succ_eq_append_getElem hil,List.map_append,List.map_append]
    rw [List.getElem?_eq_getElem hil] at hx
    rw [Option.some.inj hx]
    exact hA.app hO
  rintro acc H1 ⟨rs,rfl,hrl,hR1,hA,S1⟩ ll hll
  rw [List.take_length] at hA
  have T2:=same_upd (o:=.lst (rs.map fun r=>V.ref r.x)) hll
  have hR2:=hR1.mono T2
  have S2:=S1.trans T2
  have h2l:upd H1 ll (.lst (rs.map fun r=>V.ref r.x)) ll=some (.lst (rs.map fun r=>V.ref r.x)):=upd_same
  generalize upd H1 ll (.lst (rs.map fun r=>V.ref r.x))=H2 at hR2 S2 h2l
  refine ⟨Nat.zero_le _,fun lc hlc=>?_⟩
  have T3:=same_upd (o:=.lst []) hlc
  have hlcH:H lc=none:=S2.free hlc
  have hsm:∀ r ∈ rs,∀ i,(gAt r.L.2 i).length<=50:=fun r hr' i=>by
   obtain ⟨cs,hcs,hO⟩:=hA.mem (List.mem_map.mpr ⟨r,hr',rfl⟩)
   obtain ⟨x,hx,rfl⟩:=List.mem_map.mp hcs
   have:=hO.gap i
   have:=(hQ x hx).2.2
   omega
  have hwd:∀ i,wide (gapsIn (rs.map fun r=>r.L) i)<=50:=fun i=>wide_le fun z hz=>by
   obtain ⟨L,hL,rfl⟩:=List.mem_map.mp hz
   obtain ⟨r,hr',rfl⟩:=List.mem_map.mp hL
   exact hsm r hr' i
  have hcl:∀ i,(colsTo es (rs.map fun r=>r.L) i).length<=i * 51:=colsTo_len hwd
  refine ⟨_,rfl,p,_,rfl,.inr (sameT (S2.trans T3) hp),_,_,rfl,rfl,_,rfl,by omega,by omega,?_⟩
  rw [hle,show ((es.length:Int)+1).toNat=es.length+1 by omega]
  refine for_range (n:=es.length+1) (fun i σ H7=>∃ (as:List Addr) (v5:Option V),σ=[some (.ref p),some (.ref q0),some (.ref r0),some (.ref ll),some (.ref lc),v5]/\H7 lc=some (.lst (as.map V.ref))/\ColumnsAt H7 as (colsTo es (rs.map fun r=>r.L) i)/\Same H2 H7)
   ⟨[],none,rfl,upd_same,ColumnsAt.nil,T3⟩ ?_ ?_
  ·rintro i σ H7 hi ⟨as,v5,rfl,h7c,hC7,S7⟩
   have ei:(0:Int)+((i:Nat):Int)=((i:Nat):Int):=by omega
   rw [ei]
   have hR7:=hR2.mono S7
   have h7l:=S7 _ _ h2l
   have hcl1:=hcl i
   have hal:as.length<=5100:=by
    rw [hC7.len]
    have:i * 51<=100 * 51:=Nat.mul_le_mul_right _ (by omega)
    omega
   refine ⟨_,rfl,.inl ⟨rfl,_,SqL.of h7c⟩,_,rfl,ll,rfl,⟨_,SqL.of h7l⟩,comp_pair (K:=K) (as:=rs) (v:=fun r=>V.ref r.x) (x:=fun r=>V.ref r.a) (y:=fun r=>V.ref r.b) (fun r=>V.ref (gAddr r i)) (src_list (SqL.of h7l)) (few (by omega)) (fun r hr'=>⟨r.x,rfl,SqT.of (hR7 r hr').hx⟩) (fun r hr' k hk=>?_) (fun D hD=>?_)⟩
   ·exact ⟨_,rfl,_,rfl,r.b,_,_,_,rfl,rfl,SqT.of (hR7 r hr').hb,((hR7 r hr').gap (by omega)).1,hk⟩
   have T8:=same_upd (o:=.lst (rs.map fun r=>V.ref (gAddr r i))) hD
   have hW8:WordsAt (upd H7 D (.lst (rs.map fun r=>V.ref (gAddr r i)))) (rs.map fun r=>(gAddr r i,gAt r.L.2 i)):=fun x hx=>by
    obtain ⟨r,hr',rfl⟩:=List.mem_map.mp hx
    exact ⟨T8 _ _ ((hR7 r hr').gap (by omega)).2,by have:=hsm r hr' i;show (gAt r.L.2 i).length<=100;omega⟩
   refine ⟨D,rs.map fun r=>(gAddr r i,gAt r.L.2 i),rfl,by rw [upd_same,List.map_map];rfl,hW8,by rw [List.length_map];omega,fun H9 r9 bs S9 hr9 h9 hC9=>?_⟩
   rw [gaps_of] at hC9
   have h9c:=S9 _ _ (T8 _ _ h7c)
   have hbl:bs.length<=50:=by rw [hC9.len,gapCols_len];exact hwd i
   have nrc:r9 ≠ lc:=fun e=>by rw [e,T8 _ _ h7c] at hr9;cases hr9
   refine ⟨lc,r9,_,_,rfl,rfl,h9c,h9,(by rw [List.length_map,List.length_map];exact few (by omega)),?_⟩
   have S10:Same H2 (upd H9 lc (.lst (as.map V.ref++bs.map V.ref))):=same_to ((S7.trans T8).trans S9) hlc
   have hC10:ColumnsAt (upd H9 lc (.lst (as.map V.ref++bs.map V.ref))) (as++bs) (colsTo es (rs.map fun r=>r.L) i++gapCols (gapsIn (rs.map fun r=>r.L) i)):=((hC7.mono (T8.trans S9)).app hC9).over h9c
   have h10c:upd H9 lc (.lst (as.map V.ref++bs.map V.ref)) lc=some (.lst ((as++bs).map V.ref)):=by rw [upd_same,List.map_append]
   generalize upd H9 lc (.lst (as.map V.ref++bs.map V.ref))=H10 at S10 hC10 h10c
   refine ⟨_,rfl,_,rfl,p,_,rfl,.inr (sameT (S2.trans S10) hp),_,_,rfl,rfl,_,rfl,?_⟩
   rw [hle]
   have hR10:=hR2.mono S10
   have h10l:=S10 _ _ h2l
   by_cases hlt:i < es.length
   ·refine iteY (by omega) ?_
    refine ⟨_,rfl,.inl ⟨rfl,_,SqL.of h10c⟩,_,rfl,_,rfl,p,_,_,_,rfl,rfl,sameT (S2.trans S10) hp,at_w hlt,few (by show 1<=_;omega),fun t0 ht0=>?_⟩
    have T11:=same_upd (o:=.tup [.str (gt es i)]) ht0
    have hR11:=hR10.mono T11
    have h11l:=T11 _ _ h10l
    refine ⟨_,rfl,ll,rfl,⟨_,SqL.of h11l⟩,comp_pair (K:=K) (as:=rs) (v:=fun r=>V.ref r.x) (x:=fun r=>V.ref r.a) (y:=fun r=>V.ref r.b) (fun r=>optS (r.L.1[i]?).join) (src_list (SqL.of h11l)) (few (by omega)) (fun r hr'=>⟨r.x,rfl,SqT.of (hR11 r hr').hx⟩) (fun r hr' k hk=>?_) (fun D2 hD2=>?_)⟩
    ·exact ⟨_,rfl,_,rfl,r.a,_,_,_,rfl,rfl,SqT.of (hR11 r hr').ha,(hR11 r hr').place hlt,hk⟩
    have T12:=same_upd (o:=.lst (rs.map fun r=>optS (r.L.1[i]?).join)) hD2
    refine ⟨D2,_,rfl,.inl ⟨SqL.of upd_same,fun t1 ht1=>?_⟩⟩
    have T13:=same_upd (o:=.tup (rs.map fun r=>optS (r.L.1[i]?).join)) ht1
    refine ⟨t0,t1,_,_,rfl,rfl,T13 _ _ (T12 _ _ upd_same),upd_same,(by rw [List.length_map];exact few (by show 1+_<=_;omega)),fun r14 H14 S14 hr14=>?_⟩
    have S1014:=((T11.trans T12).trans T13).trans S14
    have h14c:=S1014 _ _ h10c
    refine ⟨lc,_,_,rfl,rfl,h14c,(by rw [List.length_map,List.length_append];exact fewer (by omega)),as++bs++[r14],_,rfl,by rw [upd_same,List.map_append (l₁:=as++bs)];rfl,?_,same_to (S10.trans S1014) hlc⟩
    have e1:colsTo es (rs.map fun r=>r.L) (i+1)=colsTo es (rs.map fun r=>r.L) i++gapCols (gapsIn (rs.map fun r=>r.L) i)++[wordCol es (rs.map fun r=>r.L) i]:=by
     show _++wordCols es _ i=_
     unfold wordCols
     rw [if_pos hlt]
    rw [e1]
    refine ColumnsAt.over ((hC10.mono S1014).app (ColumnsAt.one ?_)) h14c
    rw [hr14]
    show _=some (HO.tup (optS (some (gt es i)) :: ((rs.map fun r=>r.L).map fun x=>(x.1[i]?).join).map optS))
    rw [List.map_map,List.map_map]
    rfl
   ·refine iteK (by omega) ⟨as++bs,_,rfl,h10c,?_,S10⟩
    have e1:colsTo es (rs.map fun r=>r.L) (i+1)=colsTo es (rs.map fun r=>r.L) i++gapCols (gapsIn (rs.map fun r=>r.L) i):=by
     show _++wordCols es _ i=_
     unfold wordCols
     rw [if_neg hlt,List.append_nil]
    rw [e1]
    exact hC10
  ·rintro σ H7 ⟨as,v5,rfl,h7c,hC7,S7⟩
   refine ⟨_,rfl,lc,_,rfl,.inl ⟨SqL.of h7c,fun t ht=>?_⟩⟩
   have T8:=same_upd (o:=.tup (as.map V.ref)) ht
   exact q _ t as (rs.map fun r:LRec=>r.L) ((S2.trans S7).trans T8) upd_same (hC7.mono T8) hA
theorem cut3 (ns:List Int) (m:Nat):∃ ms:List Int,cutV (ns.map V.int) (some 3) (some (3+((m:Nat):Int)))=ms.map V.int/\(∀ x ∈ ms,x ∈ ns)/\ms.length<=m:=by
 have e:(3+((m:Nat):Int))=((3+m:Nat):Int):=by omega
 have h3:(3:Int)=((3:Nat):Int):=rfl
 unfold cutV
 refine ⟨(ns.drop (HT.sIx (ns.map V.int).length 0 (some 3))).take (HT.sIx (ns.map V.int).length (ns.map V.int).length (some (3+((m:Nat):Int))) - HT.sIx (ns.map V.int).length 0 (some 3)),by rw [<-List.map_drop,<-List.map_take],fun x hx=>List.mem_of_mem_drop (List.mem_of_mem_take hx),?_⟩
 rw [List.length_take,List.length_drop,e,HT.sIx_nat,h3,HT.sIx_nat]
 omega
structure SceneAt (H:Hp) (t p q r:Addr) (es:List Str) (qs:List (Addr × List Str)) (pr:List Int) (m:Nat):Prop where
 ht:H t=some (.tup [.ref p,.ref q,.ref r])
 hp:H p=some (.tup (es.map V.str))
 hq:H q=some (.tup (qs.map fun x=>V.ref x.1))
 hr:H r=some (.tup (pr.map V.int))
 ge:∀ z ∈ es,Good z
 el:es.length<=5
 rows:RowsAt H qs
 ql:qs.length<=m
 p7:pr.length=7
 pn:∀ x ∈ pr,0<=x/\x<=10 ^ 30
theorem SceneAt.mono {H H':Hp} {t p q r:Addr} {es:List Str} {qs:List (Addr × List Str)} {pr:List Int} {m:Nat} (S:Same H H') (h:SceneAt H t p q r es qs pr m):SceneAt H' t p q r es qs pr m:=
 ⟨S _ _ h.ht,S _ _ h.hp,S _ _ h.hq,S _ _ h.hr,h.ge,h.el,h.rows.mono S,h.ql,h.p7,h.pn⟩
def spScene (K:PySem.W.Frag):Sp:=fun vs H Q _=>∃ (a:Addr) (ns:List Int) (m:Nat),vs=[.ref a,.int ((m:Nat):Int)]/\SqL K H a (ns.map V.int)/\ns.length<=63/\(∀ m ∈ ns,Builtin.Int.intBits m<=1048576)/\m<=50 ∧
 ∀ (H':Hp) (t p q r:Addr) (es:List Str) (qs:List (Addr × List Str)) (pr:List Int),Same H H'->SceneAt H' t p q r es qs pr m->Q (.ref t) H'
theorem scScene:FnScope ["script","most","pool","base","copies","cell","copy"] ["script","most"] (defScope sScene):=⟨rfl,rfl,rfl,by decide +kernel,rfl,by decide +kernel,by decide +kernel⟩
theorem RowsAt.snoc {H:Hp} {qs:List (Addr × List Str)} {x:Addr × List Str} (h:RowsAt H qs) (h1:H x.1=some (.tup (x.2.map V.str))) (h2:∀ z ∈ x.2,Good z) (h3:x.2.length<=50):RowsAt H (qs++[x]):=fun y hy=>by
 rcases List.mem_append.mp hy with hy | hy
 ·exact h y hy
 ·rw [List.mem_singleton.mp hy]
  exact ⟨h1,h2,h3⟩
theorem RowsAt.over {H:Hp} {qs:List (Addr × List Str)} {l:Addr} {xs:List V} {o:HO} (h:RowsAt H qs) (hl:H l=some (.lst xs)):RowsAt (upd H l o) qs:=fun x hx=>by
 obtain ⟨h1,h2⟩:=h x hx
 exact ⟨by rw [upd_ne (fun e=>by rw [e,hl] at h1;cases h1)];exact h1,h2⟩
theorem ok_scene {f gC gD gP gRo gCb gPb:Addr} {fd dC dD dP dRo dCb dPb:FuncData} (F:Fun K "_law_scene" "_law_scene" sScene f fd)
  (DC:Dfn K mg "_law_cell_at" sCell gC dC ["script","k"]) (GC:FnOk P w K mg base CX0 8 gC dC ["script","k"] (spCell K)) (DD:Dfn K mg "_law_draw" sDraw gD dD ["cell","k","many"]) (GD:FnOk P w K mg base CX0 8 gD dD ["cell","k","many"] spDraw) (DP:Dfn K mg "_law_pool" sPool gP dP ["cell"]) (GP:FnOk P w K mg base CX0 8 gP dP ["cell"] spPool)
  (DRo:Dfn K mg "_law_row_by" sRowBy gRo dRo ["cell","pool","most"]) (GRo:FnOk P w K mg base CX0 8 gRo dRo ["cell","pool","most"] spRowBy) (DCb:Dfn K mg "_law_copy_by" sCopyBy gCb dCb ["base","cell","pool","most"]) (GCb:FnOk P w K mg base CX0 8 gCb dCb ["base","cell","pool","most"] (spCopyBy K)) (DPb:Dfn K mg "_law_prices_by" sPricesBy gPb dPb ["cell"]) (GPb:FnOk P w K mg base CX0 8 gPb dPb ["cell"] spPricesBy) (mtup:mg "tuple" = none):FnOk P w K mg base CX0 9 f fd ["script","most"] (spScene K):=by
 refine F.ok scScene (fun vs H Q E h=>?_) (fun cdv A outer s H vs Q E hr h=>?_)
 ·obtain ⟨a,ns,m,rfl,_⟩:=h
  rfl
 ·obtain ⟨a,ns,m,rfl,hS,hn,hb,hm,q⟩:=h
  refine ⟨_,pss_cons (ps_set (i:=2) scScene.nd rfl (Or.inl rfl) (pe_call GP hr (by rfl) DP.at_ DP.fn.kp DP.bn .nil pass0 (pa_cons (pe_call GC hr (by rfl) DC.at_ DC.fn.kp DC.bn .nil pass0 (pa_cons (pv 0) (pa_cons pe_int pa_nil))) pa_nil)))
   (pss_cons (ps_set (i:=3) scScene.nd rfl (Or.inl rfl) (pe_call GRo hr (by rfl) DRo.at_ DRo.fn.kp DRo.bn .nil pass0 (pa_cons (pe_call GC hr (by rfl) DC.at_ DC.fn.kp DC.bn .nil pass0 (pa_cons (pv 0) (pa_cons pe_int pa_nil))) (pa_cons (pv 2) (pa_cons pe_int pa_nil)))))
   (pss_cons (ps_set (i:=4) scScene.nd rfl (Or.inl rfl) (pe_lst pa_nil))
   (pss_cons (ps_for PassesOwn.never rfl (pi_list (pe_slice sl_lst (pv 0) (po_some pe_int) (po_some (pe_op op_add pe_int (pv 1))))) (pg_name (i:=5) scScene.nd rfl (Or.inl rfl))
   (pss_cons (ps_set (i:=6) scScene.nd rfl (Or.inl rfl) (pe_call GCb hr (by rfl) DCb.at_ DCb.fn.kp DCb.bn .nil pass0 (pa_cons (pv 3) (pa_cons (pv 5) (pa_cons (pv 2) (pa_cons pe_int pa_nil))))))
   (pss_cons (ps_mid (ps_if (pt_cmpR op_eq (pe_call GD hr (by rfl) DD.at_ DD.fn.kp DD.bn .nil pass0 (pa_cons (pv 5) (pa_cons pe_int (pa_cons pe_int pa_nil)))) pe_int (nomark _)) (pss_one (ps_set (i:=6) scScene.nd rfl (Or.inl rfl) (pe_call GRo hr (by rfl) DRo.at_ DRo.fn.kp DRo.bn .nil pass0 (pa_cons (pv 5) (pa_cons (pv 2) (pa_cons pe_int pa_nil)))))) pss_nil))
   (pss_one (ps_expr (pe_bm PySem.F.plainAttrs_list PySem.F.slot_list_append PySem.F.type_list_append mt_append (pv 4) (pa_cons (pv 6) pa_nil)))))))
   (pss_one (ps_ret (pe_tup (pa_cons (pv 3) (pa_cons (pe_callTy call_tuple_of (by rfl) mtup boot_tuple (pa_cons (pv 4) pa_nil)) (pa_cons (pe_call GPb hr (by rfl) DPb.at_ DPb.fn.kp DPb.bn .nil pass0 (pa_cons (pe_call GC hr (by rfl) DC.at_ DC.fn.kp DC.bn .nil pass0 (pa_cons (pv 0) (pa_cons pe_int pa_nil))) pa_nil)) pa_nil))))))))),?_⟩
  have hc0:=bits_cell hb 0
  have hc1:=bits_cell hb 1
  have hc2:=bits_cell hb 2
  refine ⟨_,rfl,a,ns,0,rfl,hS,by decide,_,rfl,hc0,fun pl ws hpl hwl hwg=>?_⟩
  have S1:=same_upd (o:=.lst (ws.map V.str)) hpl
  have hPool1:PoolAt (upd H pl (.lst (ws.map V.str))) pl ws:=⟨upd_same,by omega,by omega,hwg⟩
  generalize upd H pl (.lst (ws.map V.str))=H1 at S1 hPool1
  refine ⟨_,rfl,a,ns,1,rfl,S1.seq hS,by decide,_,rfl,_,pl,ws,5,rfl,hc1,hPool1,by decide,fun p0 es hp0 hge hel=>?_⟩
  have T2:=same_upd (o:=.tup (es.map V.str)) hp0
  have hp2:upd H1 p0 (.tup (es.map V.str)) p0=some (.tup (es.map V.str)):=upd_same
  have hPool2:=hPool1.mono T2
  have S2:=S1.trans T2
  generalize upd H1 p0 (.tup (es.map V.str))=H2 at S2 hp2 hPool2
  obtain ⟨ms,ecut,hms,hml⟩:=cut3 ns m
  refine ⟨few (by show 0<=_;omega),fun lc hlc=>?_⟩
  have T3:=same_upd (o:=.lst []) hlc
  have hlc3:upd H2 lc (.lst []) lc=some (.lst []):=upd_same
  have S3:=S2.trans T3
  have hp3:=T3 _ _ hp2
  have hPool3:=hPool2.mono T3
  have hHlc:=S2.free hlc
  have npc:pl ≠ lc:=fun e=>by rw [<-e,hPool2.1] at hlc;cases hlc
  generalize upd H2 lc (.lst [])=H3 at S3 hlc3 hp3 hPool3
  refine ⟨_,rfl,_,rfl,_,rfl,_,_,rfl,rfl,_,rfl,a,_,rfl,S3.seq hS,fun l5 hl5=>?_⟩
  rw [ecut]
  have T4:=same_upd (o:=.lst (ms.map V.int)) hl5
  have h55:upd H3 l5 (.lst (ms.map V.int)) l5=some (.lst (ms.map V.int)):=upd_same
  have hlc5:=T4 _ _ hlc3
  have hp5:=T4 _ _ hp3
  have hPool5:=hPool3.mono T4
  have S5:=S3.trans T4
  have n5c:l5 ≠ lc:=fun e=>by rw [e,hlc3] at hl5;cases hl5
  generalize upd H3 l5 (.lst (ms.map V.int))=H5 at S5 h55 hlc5 hp5 hPool5
  refine ⟨l5,rfl,⟨_,SqL.of h55⟩,for_list (K:=K) (a:=l5) (xs:=ms.map V.int) (fun i σ H7=>∃ (qs:List (Addr × List Str)) (v5 v6:Option V),σ=[some (.ref a),some (.int ((m:Nat):Int)),some (.ref pl),some (.ref p0),some (.ref lc),v5,v6]/\qs.length=i/\H7 lc=some (.lst (qs.map fun x=>V.ref x.1))/\RowsAt H7 qs/\H7 l5=some (.lst (ms.map V.int))/\H7 p0=some (.tup (es.map V.str))/\PoolAt H7 pl ws/\Same H H7)
   ⟨[],none,none,rfl,rfl,hlc5,(fun x hx=>nomatch hx:RowsAt H5 []),h55,hp5,hPool5,S5⟩ (fun i σ H7 _ ⟨_,_,_,_,_,_,_,h,_⟩=>SqL.of h) ?_ ?_⟩
  ·rintro i y σ H7 hi ⟨qs,v5,v6,rfl,hql,hlc7,hR7,h75,hp7,hPool7,S7⟩
   rw [List.getElem?_map] at hi
   obtain ⟨c,hci,rfl⟩:=Option.map_eq_some_iff.mp hi
   have hil:i < ms.length:=(List.getElem?_eq_some_iff.mp hci).1
   have hcb:=hb c (hms c (List.mem_of_getElem? hci))
   refine ⟨_,rfl,_,rfl,_,rfl,p0,es,c,pl,ws,6,rfl,SqT.of hp7,hge,by omega,hcb,hPool7,by decide,fun pc cs hpc hgc hcl=>?_⟩
   have T9:=same_upd (o:=.tup (cs.map V.str)) hpc
   have hc9:upd H7 pc (.tup (cs.map V.str)) pc=some (.tup (cs.map V.str)):=upd_same
   generalize upd H7 pc (.tup (cs.map V.str))=H9 at T9 hc9
   refine ⟨fun σ' H'=>∃ (pc:Addr) (cs:List Str),σ'=[some (.ref a),some (.int ((m:Nat):Int)),some (.ref pl),some (.ref p0),some (.ref lc),some (.int c),some (.ref pc)]/\H' pc=some (.tup (cs.map V.str))/\(∀ z ∈ cs,Good z)/\cs.length<=6/\Same H7 H',?_,?_⟩
   ·refine ⟨_,rfl,_,_,_,rfl,hcb,(by show (0:Int)<=73;decide),(by show (73:Int)<=100000;decide),(by show (0:Int) < 5;decide),rfl,_,rfl,ite2 (fun _=>?_) (fun _=>?_)⟩
    ·refine ⟨_,rfl,_,rfl,c,pl,ws,5,rfl,hcb,hPool7.mono T9,by decide,fun pd ds hpd hgd hdl=>?_⟩
     have T10:=same_upd (o:=.tup (ds.map V.str)) hpd
     exact ⟨pd,ds,rfl,upd_same,hgd,by omega,T9.trans T10⟩
    ·exact ⟨pc,cs,rfl,hc9,hgc,hcl,T9⟩
   clear hc9 hgc hcl hpc T9
   rintro σ' H9 ⟨pc,cs,rfl,hc9,hgc,hcl,T9⟩
   have h9c:=T9 _ _ hlc7
   refine ⟨_,rfl,.inl ⟨rfl,_,SqL.of h9c⟩,_,rfl,lc,_,_,rfl,rfl,h9c,(by rw [List.length_map];exact fewer (by omega)),qs++[(pc,cs)],_,_,rfl,by rw [List.length_append,hql];rfl,by rw [upd_same,List.map_append];rfl,?_,?_,?_,?_,?_⟩
   ·exact RowsAt.over ((hR7.mono T9).snoc hc9 hgc (by show cs.length<=50;omega)) h9c
   ·rw [upd_ne (fun e=>n5c e)]
    exact T9 _ _ h75
   ·rw [upd_ne (fun e=>by rw [e,hlc7] at hp7;cases hp7)]
    exact T9 _ _ hp7
   ·refine ⟨?_,hPool7.2⟩
    have hpl7:=T9 _ _ hPool7.1
    rw [upd_ne npc]
    exact hpl7
   ·exact same_to (S7.trans T9) hHlc
  ·rintro σ H7 ⟨qs,v5,v6,rfl,hql,hlc7,hR7,h75,hp7,hPool7,S7⟩
   refine ⟨_,rfl,_,rfl,lc,_,rfl,.inl ⟨SqL.of hlc7,fun t ht=>?_⟩⟩
   have T8:=same_upd (o:=.tup (qs.map fun x=>V.ref x.1)) ht
   have h88:upd H7 t (.tup (qs.map fun x=>V.ref x.1)) t=some (.tup (qs.map fun x=>V.ref x.1)):=upd_same
   generalize upd H7 t (.tup (qs.map fun x=>V.ref x.1))=H8 at T8 h88
   refine ⟨_,rfl,a,ns,2,rfl,(S7.trans T8).seq hS,by decide,_,rfl,hc2,fun pp pr hpp hp7l hP=>?_⟩
   have T9:=same_upd (o:=.tup (pr.map V.int)) hpp
   refine ⟨few (by show 3<=_;omega),fun x hx=>?_⟩
   have T10:=same_upd (o:=.tup [.ref p0,.ref t,.ref pp]) hx
   have U:=(T8.trans T9).trans T10
   exact q _ x p0 t pp es qs pr (S7.trans U) ⟨upd_same,U _ _ hp7,(T9.trans T10) _ _ h88,T10 _ _ upd_same,hge,hel,hR7.mono U,by rw [hql,List.length_map];exact hml,hp7l,hP⟩
def colE (j:Nat) (c:List (Option Str)):Option Str:=(c[j]?).join
theorem take_get (z:List Str):∀ n:Nat,(List.range n).filterMap (fun k=>z[k]?)=z.take n
 | 0=>rfl
 | n+1=>by
  rw [List.range_succ,List.filterMap_append,take_get z n,List.take_add_one]
  congr 1
theorem back_gap {ws:List (List Str)} {j:Nat} {z:List Str} (h:ws[j]?=some z):(gapCols ws).filterMap (colE (j+1))=z:=by
 unfold gapCols
 rw [List.filterMap_map]
 have e:(colE (j+1) ∘ gapCol ws)=fun k=>z[k]?:=by
  funext k
  show ((ws.map fun z=>z[k]?)[j]?).join=z[k]?
  rw [List.getElem?_map,h]
  rfl
 rw [e,take_get,List.take_of_length_le (wide_ge (List.mem_of_getElem? h))]
theorem back_gap0 (ws:List (List Str)):(gapCols ws).filterMap (colE 0)=[]:=by
 unfold gapCols
 rw [List.filterMap_map,List.filterMap_eq_nil_iff]
 intro k _
 rfl
theorem back_to0 (es:List Str) (Ls:List LPG):∀ i:Nat,(colsTo es Ls i).filterMap (colE 0)=es.take i
 | 0=>rfl
 | i+1=>by
  show (colsTo es Ls i++gapCols (gapsIn Ls i)++wordCols es Ls i).filterMap (colE 0)=_
  rw [List.filterMap_append,List.filterMap_append,back_gap0,List.append_nil,back_to0 es Ls i,List.take_add_one]
  congr 1
  unfold wordCols
  by_cases h:i < es.length
  ·rw [if_pos h,List.getElem?_eq_getElem h]
   show [gt es i]=[es[i]]
   unfold gt
   rw [List.getElem?_eq_getElem h]
   rfl
  ·rw [if_neg h,List.getElem?_eq_none (by omega)]
   rfl
theorem back_to {es:List Str} {Ls:List LPG} {j:Nat} {L:LPG} (h:Ls[j]?=some L):∀ i:Nat,i<=es.length->(colsTo es Ls i).filterMap (colE (j+1))=rd L.1 L.2 i
 | 0,_=>rfl
 | i+1,hi=>by
  show (colsTo es Ls i++gapCols (gapsIn Ls i)++wordCols es Ls i).filterMap (colE (j+1))=rd L.1 L.2 i++gAt L.2 i++((L.1[i]?).join).toList
  rw [List.filterMap_append,List.filterMap_append,back_to h i (by omega),back_gap (z:=gAt L.2 i) (by unfold gapsIn;rw [List.getElem?_map,h];rfl)]
  congr 1
  unfold wordCols
  rw [if_pos (by omega)]
  have e:colE (j+1) (wordCol es Ls i)=(L.1[i]?).join:=by
   show ((Ls.map fun x=>(x.1[i]?).join)[j]?).join=_
   rw [List.getElem?_map,h]
   rfl
  cases ho:(L.1[i]?).join with
  | none=>rw [ho] at e;rw [List.filterMap_cons_none e];rfl
  | some y=>rw [ho] at e;rw [List.filterMap_cons_some e];rfl
theorem back_of {es:List Str} {pr:List Int} {css:List (List Str)} {Ls:List LPG} (hA:LaidAll es pr css Ls) {j:Nat} {cs:List Str} (h:css[j]?=some cs):(colsOf es Ls).filterMap (colE (j+1))=cs:=by
 have hj:j < Ls.length:=by rw [hA.len];exact (List.getElem?_eq_some_iff.mp h).1
 have hL:=List.getElem?_eq_getElem hj
 have hO:=hA.item j cs _ h hL
 show (colsTo es Ls es.length++gapCols (gapsIn Ls es.length)++wordCols es Ls es.length).filterMap (colE (j+1))=cs
 unfold wordCols
 rw [if_neg (Nat.lt_irrefl _),List.append_nil,List.filterMap_append,back_to hL _ (Nat.le_refl _),back_gap (z:=gAt Ls[j].2 es.length) (by unfold gapsIn;rw [List.getElem?_map,hL];rfl)]
 exact hO.len.2.2
theorem back_of0 (es:List Str) (Ls:List LPG):(colsOf es Ls).filterMap (colE 0)=es:=by
 unfold colsOf
 rw [back_to0,List.take_of_length_le (by omega)]
theorem cols_width {es:List Str} {Ls:List LPG} {c:List (Option Str)}:∀ i:Nat,c ∈ colsTo es Ls i->c.length=Ls.length+1
 | 0,h=>nomatch h
 | i+1,h=>by
  have h:c ∈ colsTo es Ls i++gapCols (gapsIn Ls i)++wordCols es Ls i:=h
  rcases List.mem_append.mp h with h | h
  ·rcases List.mem_append.mp h with h | h
   ·exact cols_width i h
   ·obtain ⟨k,_,rfl⟩:=List.mem_map.mp h
    show (List.map _ (gapsIn Ls i)).length+1=_
    unfold gapsIn
    rw [List.length_map,List.length_map]
  ·unfold wordCols at h
   split at h
   ·rw [List.mem_singleton.mp h]
    show (List.map _ Ls).length+1=_
    rw [List.length_map]
   ·nomatch h
def headOf (c:List (Option Str)):Option Str:=c.head?.join
def heads (cols:List (List (Option Str))):Nat:=(cols.filter fun c=>(headOf c).isSome).length
def kindAt (cols:List (List (Option Str))) (i:Nat):V:=if (headOf (cols[i]?.getD [])).isSome then .int ((heads (cols.take i):Nat):Int) else .non
def kindsTo (cols:List (List (Option Str))) (n:Nat):List V:=(List.range n).map (kindAt cols)
theorem heads_app (a b:List (List (Option Str))):heads (a++b)=heads a+heads b:=by unfold heads;rw [List.filter_append,List.length_append]
theorem heads_step {cols:List (List (Option Str))} {i:Nat} {c:List (Option Str)} (h:cols[i]?=some c):heads (cols.take (i+1))=heads (cols.take i)+(if (headOf c).isSome then 1 else 0):=by
 obtain ⟨hi,rfl⟩:=List.getElem?_eq_some_iff.mp h
 rw [List.take_add_one,List.getElem?_eq_getElem hi,heads_app]
 show _+heads [cols[i]]=_
 congr 1
 unfold heads
 by_cases hc:(headOf cols[i]).isSome
 ·rw [List.filter_cons_of_pos (p:=fun c=>(headOf c).isSome) hc,if_pos hc]
  rfl
 ·rw [List.filter_cons_of_neg (p:=fun c=>(headOf c).isSome) hc,if_neg hc]
  rfl
theorem kindsTo_step {cols:List (List (Option Str))} {i:Nat} {c:List (Option Str)} (h:cols[i]?=some c):kindsTo cols (i+1)=kindsTo cols i++[if (headOf c).isSome then .int ((heads (cols.take i):Nat):Int) else .non]:=by
 unfold kindsTo
 rw [List.range_succ,List.map_append]
 show _++[kindAt cols i]=_
 unfold kindAt
 rw [h]
 rfl
theorem kindsTo_len (cols:List (List (Option Str))) (n:Nat):(kindsTo cols n).length=n:=by unfold kindsTo;rw [List.length_map,List.length_range]
theorem cols_ne {es:List Str} {Ls:List LPG} {c:List (Option Str)}:∀ i:Nat,c ∈ colsTo es Ls i->∃ o r,c=o :: r
 | 0,h=>nomatch h
 | i+1,h=>by
  have h:c ∈ colsTo es Ls i++gapCols (gapsIn Ls i)++wordCols es Ls i:=h
  rcases List.mem_append.mp h with h | h
  ·rcases List.mem_append.mp h with h | h
   ·exact cols_ne i h
   ·obtain ⟨k,_,rfl⟩:=List.mem_map.mp h
    exact ⟨_,_,rfl⟩
  ·unfold wordCols at h
   split at h
   ·rw [List.mem_singleton.mp h]
    exact ⟨_,_,rfl⟩
   ·nomatch h
theorem cols_small {es:List Str} {pr:List Int} {css:List (List Str)} {Ls:List LPG} {n:Nat} (h:LaidAll es pr css Ls) (hc:∀ cs ∈ css,cs.length<=n):(colsOf es Ls).length<=(es.length+1) * (n+1):=by
 refine colsTo_len (fun i=>wide_le fun z hz=>?_) _
 obtain ⟨L,hL,rfl⟩:=List.mem_map.mp hz
 obtain ⟨cs,hcs,hO⟩:=h.mem hL
 have:=hO.gap i
 have:=hc cs hcs
 omega
def spColK (K:PySem.W.Frag):Sp:=fun vs H Q _=>∃ (p q r:Addr) (es:List Str) (qs:List (Addr × List Str)) (pr:List Int),vs=[.ref p,.ref q,.ref r]/\SqT K H p (es.map V.str)/\H q=some (.tup (qs.map fun x=>V.ref x.1))/\RowsAt H qs/\SqT K H r (pr.map V.int)/\(∀ z ∈ es,Good z)/\es.length<=50/\qs.length<=50/\pr.length=7 ∧
 ∀ (H':Hp) (t:Addr) (Ls:List LPG),Same H H'->H' t=some (.tup (kindsTo (colsOf es Ls) (colsOf es Ls).length))->LaidAll es pr (qs.map fun x=>x.2) Ls->Q (.ref t) H'
theorem scColK:FnScope ["base","copies","prices","kinds","done","column"] ["base","copies","prices"] (defScope sColK):=⟨rfl,rfl,rfl,by decide +kernel,rfl,by decide +kernel,by decide +kernel⟩
theorem ok_colk {f gO:Addr} {fd dO:FuncData} (F:Fun K "column_kinds" "column_kinds" sColK f fd) (DO:Dfn K mg "collated" sColl gO dO ["base","copies","prices"]) (GO:FnOk P w K mg base CX0 6 gO dO ["base","copies","prices"] (spColl K)) (mtup:mg "tuple" = none):FnOk P w K mg base CX0 7 f fd ["base","copies","prices"] (spColK K):=by
 refine F.ok scColK (fun vs H Q E h=>?_) (fun cdv A outer s H vs Q E hr h=>?_)
 ·obtain ⟨p,q,r,es,qs,pr,rfl,_⟩:=h
  rfl
 ·obtain ⟨p,q0,r0,es,qs,pr,rfl,hp,hq0,hQ,hpr,hge,hel,hql,h7,q⟩:=h
  refine ⟨_,pss_cons (ps_set (i:=3) scColK.nd rfl (Or.inl rfl) (pe_lst pa_nil))
   (pss_cons (ps_set (i:=4) scColK.nd rfl (Or.inl rfl) pe_int)
   (pss_cons (ps_for PassesOwn.never rfl (pi_tup (pe_call GO hr (by rfl) DO.at_ DO.fn.kp DO.bn .nil pass0 (pa_cons (pv 0) (pa_cons (pv 1) (pa_cons (pv 2) pa_nil))))) (pg_name (i:=5) scColK.nd rfl (Or.inl rfl))
   (pss_one (ps_if (pt_cmpR op_isN (pe_ix ix_tup (pv 5) pe_int (fun _ _=>rfl)) pe_non (nomark _)) (pss_one (ps_expr (pe_bm PySem.F.plainAttrs_list PySem.F.slot_list_append PySem.F.type_list_append mt_append (pv 3) (pa_cons pe_non pa_nil)))) (pss_cons (ps_expr (pe_bm PySem.F.plainAttrs_list PySem.F.slot_list_append PySem.F.type_list_append mt_append (pv 3) (pa_cons (pv 4) pa_nil)))
   (pss_one (ps_set (i:=4) scColK.nd rfl (Or.inl rfl) (pe_op op_add (pv 4) pe_int)))))))
   (pss_one (ps_ret (pe_callTy call_tuple_of (by rfl) mtup boot_tuple (pa_cons (pv 3) pa_nil)))))),?_⟩
  refine ⟨few (by show 0<=_;omega),fun lk hlk=>?_⟩
  have T1:=same_upd (o:=.lst []) hlk
  have h1k:upd H lk (.lst []) lk=some (.lst []):=upd_same
  generalize upd H lk (.lst [])=H1 at T1 h1k
  refine ⟨_,rfl,_,rfl,_,rfl,p,q0,r0,es,qs,pr,rfl,sameT T1 hp,T1 _ _ hq0,hQ.mono T1,sameT T1 hpr,hge,hel,hql,h7,fun H2 t as Ls S2 ht hC hA=>?_⟩
  have h2k:=S2 _ _ h1k
  have hcl:=cols_small (n:=50) hA fun cs hcs=>by
   obtain ⟨x,hx,rfl⟩:=List.mem_map.mp hcs
   exact (hQ x hx).2.2
  have hcl2:(colsOf es Ls).length<=2601:=Nat.le_trans hcl (show (es.length+1) * 51<=51 * 51 from Nat.mul_le_mul_right _ (by omega))
  have hne:∀ c ∈ colsOf es Ls,∃ o r,c=o :: r:=fun c hc=>cols_ne _ hc
  generalize ec:colsOf es Ls=cols at hC hcl2 hne
  have S12:=T1.trans S2
  refine ⟨t,rfl,⟨_,SqT.of ht⟩,for_tup (K:=K) (a:=t) (xs:=as.map V.ref) (fun i σ H7=>∃ (v5:Option V),σ=[some (.ref p),some (.ref q0),some (.ref r0),some (.ref lk),some (.int ((heads (cols.take i):Nat):Int)),v5]/\H7 lk=some (.lst (kindsTo cols i))/\H7 t=some (.tup (as.map V.ref))/\ColumnsAt H7 as cols/\Same H H7)
   ⟨none,rfl,h2k,ht,hC,S12⟩ (fun i σ H7 _ ⟨_,_,_,h,_⟩=>SqT.of h) ?_ ?_⟩
  ·rintro i y σ H7 hi ⟨v5,rfl,h7k,h7t,hC7,S7⟩
   obtain ⟨c,hci,rfl⟩:=ref_at hi
   have hil:i < cols.length:=by rw [<-hC7.len];exact (List.getElem?_eq_some_iff.mp hci).1
   have ecol:=List.getElem?_eq_getElem hil
   have hcc:=hC7.item i c _ hci ecol
   obtain ⟨o,rr,eo⟩:=hne _ (List.getElem_mem hil)
   rw [eo] at hcc ecol
   have e1:=heads_step ecol
   have e2:=kindsTo_step ecol
   have nt:t ≠ lk:=fun e=>by rw [e,h7k] at h7t;cases h7t
   refine ⟨_,rfl,c,_,_,_,rfl,rfl,SqT.of hcc,atI_nat (j:=0) rfl,rfl,_,rfl,?_⟩
   cases o with
   | none=>
    refine iteY rfl ?_
    refine ⟨_,rfl,.inl ⟨rfl,_,SqL.of h7k⟩,lk,_,_,rfl,rfl,h7k,(by rw [kindsTo_len];exact fewer (by omega)),?_⟩
    refine ⟨_,by rw [e1];rfl,by rw [upd_same,e2];rfl,by rw [upd_ne nt];exact h7t,hC7.over h7k,same_to S7 hlk⟩
   | some z=>
    refine iteK (fun z=>nomatch z) ?_
    refine ⟨_,rfl,.inl ⟨rfl,_,SqL.of h7k⟩,_,rfl,lk,_,_,rfl,rfl,h7k,(by rw [kindsTo_len];exact fewer (by omega)),?_⟩
    refine ⟨_,rfl,_,_,rfl,rfl,_,by rw [e1];rfl,by rw [upd_same,e2];rfl,by rw [upd_ne nt];exact h7t,hC7.over h7k,same_to S7 hlk⟩
  ·rintro σ H7 ⟨v5,rfl,h7k,h7t,hC7,S7⟩
   refine ⟨_,rfl,lk,_,rfl,.inl ⟨SqL.of h7k,fun x hx=>?_⟩⟩
   have T8:=same_upd (o:=.tup (kindsTo cols (as.map V.ref).length)) hx
   refine q _ x Ls (S7.trans T8) ?_ hA
   rw [upd_same,List.length_map,hC7.len,ec]
theorem cols_zip {H:Hp} {as:List Addr} {cols:List (List (Option Str))} (h:ColumnsAt H as cols):((as.zip cols).map fun x=>V.ref x.1)=as.map V.ref/\((as.zip cols).map fun x=>x.2)=cols/\∀ x ∈ as.zip cols,H x.1=some (.tup (x.2.map optS)):=by
 refine ⟨?_,List.map_snd_zip (Nat.le_of_eq h.len.symm),fun x hx=>?_⟩
 ·have:=List.map_fst_zip (l₁:=as) (l₂:=cols) (Nat.le_of_eq h.len)
  rw [show (fun x:Addr × List (Option Str)=>V.ref x.1)=V.ref ∘ Prod.fst from rfl,<-List.map_map,this]
 ·obtain ⟨j,hj⟩:=List.mem_iff_getElem?.mp hx
  obtain ⟨h1,h2⟩:=List.getElem?_zip_eq_some.mp hj
  exact h.item j _ _ h1 h2
theorem col_at {c:List (Option Str)} {j:Nat} (h:j < c.length):atI (c.map optS) ((j:Nat):Int)=some (optS (colE j c)):=atI_nat (by unfold colE;rw [List.getElem?_map,List.getElem?_eq_getElem h];rfl)
theorem back_list (i:Nat) (xs:List (Addr × List (Option Str))):((xs.filter fun x=>!decide (optS (colE i x.2)=.non)).map fun x=>optS (colE i x.2))=((xs.map fun x=>x.2).filterMap (colE i)).map V.str:=by
 induction xs with
 | nil=>rfl
 | cons x r ih=>
  cases e:colE i x.2 with
  | none=>
   rw [List.filter_cons_of_neg (by rw [e];exact Bool.false_ne_true),ih,List.map_cons,List.filterMap_cons_none e]
  | some z=>
   rw [List.filter_cons_of_pos (by rw [e];rfl),List.map_cons,ih,List.map_cons,List.filterMap_cons_some e,List.map_cons,e]
   rfl
def spBack (K:PySem.W.Frag):Sp:=fun vs H Q _=>∃ (x:Addr) (as:List Addr) (cols:List (List (Option Str))) (n i:Nat),vs=[.ref x,.int ((i:Nat):Int)]/\H x=some (.tup (as.map V.ref))/\ColumnsAt H as cols/\(∀ c ∈ cols,c.length=n)/\i < n/\cols.length<=10000/\∀ (H':Hp) (r:Addr),Same H H'->H' r=some (.tup ((cols.filterMap (colE i)).map V.str))->Q (.ref r) H'
theorem scBack:FnScope ["collation","number"] ["collation","number"] (defScope sBack):=⟨rfl,rfl,rfl,by decide +kernel,rfl,by decide +kernel,by decide +kernel⟩
theorem nd_cn:(["column","number"]:List Str).Nodup:=by decide +kernel
theorem ok_back {f:Addr} {fd:FuncData} (F:Fun K "row_back" "row_back" sBack f fd) (mtup:mg "tuple" = none):FnOk P w K mg base CX0 1 f fd ["collation","number"] (spBack K):=by
 refine F.ok scBack (fun vs H Q E h=>?_) (fun cdv A outer s H vs Q E hr h=>?_)
 ·obtain ⟨x,as,cols,n,i,rfl,_⟩:=h
  rfl
 ·obtain ⟨x,as,cols,n,i,rfl,hx,hC,hcol,hi,hcl,q⟩:=h
  refine ⟨_,pss_one (ps_ret (pe_callTy call_tuple_of (by rfl) mtup boot_tuple (pa_cons (pe_comp (Nc:=["column","number"]) (mp:=[none,some 1]) rfl (CompOk.of (by rfl)) (pi_tup (pv 0)) (fun cl C s H fp=>⟨pg_name (i:=0) nd_cn rfl (Or.inl rfl),pts_one (pt_cmpR op_notN (pe_ix (ix_tupK (K:=K) rfl) (pv 0) (pv 1) (fun _ _=>rfl)) pe_non (nomark _)),(pe_ix (ix_tupK (K:=K) rfl) (pv 0) (pv 1) (fun _ _=>rfl))⟩)) pa_nil))),?_⟩
  obtain ⟨z1,z2,z3⟩:=cols_zip hC
  have hxs:∀ y ∈ as.zip cols,i < y.2.length:=fun y hy=>by
   have:y.2 ∈ cols:=by rw [<-z2];exact List.mem_map.mpr ⟨y,hy,rfl⟩
   rw [hcol _ this]
   exact hi
  have hxl:(as.zip cols).length<=10000:=by rw [<-List.length_map (f:=fun x:Addr × List (Option Str)=>x.2),z2];exact hcl
  have hl:=back_list i (as.zip cols)
  rw [z2] at hl
  rw [<-z1] at hx
  generalize as.zip cols=xs at z1 z2 z3 hxs hl hx hxl
  refine ⟨_,rfl,x,rfl,⟨_,SqT.of hx⟩,comp_pure (as:=xs) (v:=fun x=>V.ref x.1) (fun x=>!decide (optS (colE i x.2)=.non)) (fun x=>optS (colE i x.2)) (src_tup (SqT.of hx)) (few (by omega)) (fun y hy kc hk=>?_) (fun y hy _ kc hk=>?_) fun D hD=>?_⟩
  ·exact ⟨_,rfl,_,rfl,y.1,_,_,_,rfl,rfl,SqT.of (z3 y hy),col_at (hxs y hy),rfl,_,rfl,hk⟩
  ·exact ⟨_,rfl,_,rfl,y.1,_,_,_,rfl,rfl,SqT.of (z3 y hy),col_at (hxs y hy),hk⟩
  ·rw [hl]
   refine ⟨D,_,rfl,.inl ⟨SqL.of upd_same,fun r hr'=>?_⟩⟩
   have S1:=same_upd (o:=.lst ((cols.filterMap (colE i)).map V.str)) hD
   have S2:=same_upd (o:=.tup ((cols.filterMap (colE i)).map V.str)) hr'
   exact q _ r (S1.trans S2) upd_same
def spHas:Sp:=fun vs H Q _=>∃ z y:Str,vs=[.str z,.str y]/\z.length<=sizeLine/\Q (.bl (onlyB z y)) H
theorem scHas:FnScope ["text","signs"] ["text","signs"] (defScope sHas):=⟨rfl,rfl,rfl,by decide +kernel,rfl,by decide +kernel,by decide +kernel⟩
theorem nd_sign:(["sign","signs"]:List Str).Nodup:=by decide +kernel
theorem ok_has {f:Addr} {fd:FuncData} (F:Fun K "has_only" "has_only" sHas f fd) (mall:mg "all" = none):FnOk P w K mg base CX0 1 f fd ["text","signs"] spHas:=by
 refine Fun.okR F scHas (fun vs H Q E h=>?_) (fun cdv A outer s H vs Q Q2 E hr h hq=>?_)
 ·obtain ⟨z,y,rfl,_⟩:=h
  rfl
 ·obtain ⟨z,y,rfl,hz,q⟩:=h
  refine ⟨_,pss_one (ps_ret (pe_callB (call_all rfl) (by rfl) mall boot_all (pa_cons (pe_comp (Nc:=["sign","signs"]) (mp:=[none,some 1]) rfl (CompOk.of (by rfl)) (pi_str (pv 0))
   (fun cl C s H fp=>⟨pg_name (i:=0) nd_sign rfl (Or.inl rfl),pts_nil,pe_cmpR op_in_str (pv 0) (pv 1) (by with_unfolding_all rfl)⟩)) pa_nil))),?_⟩
  refine ⟨_,rfl,z,rfl,comp_map (as:=z.cps.toList) (fun c=>.bl (decide (c ∈ y.cps.toList))) (src_str z H) (by rw [clen];exact hz) (fun c hc k hk=>?_) (fun D hD=>?_)⟩
  ·refine ⟨_,rfl,_,rfl,_,_,rfl,rfl,?_⟩
   rw [PySem.StrLaws.found_one]
   exact hk
  ·refine ⟨D,z.cps.toList.map fun c=>decide (c ∈ y.cps.toList),rfl,SqL.of ?_,?_⟩
   ·rw [upd_same,List.map_map];rfl
   ·refine hq _ _ (Rst.same (same_upd hD) ?_)
    have e:(z.cps.toList.map fun c=>decide (c ∈ y.cps.toList)).all id=onlyB z y:=by
     unfold onlyB;rw [List.all_map];rfl
    rw [e];exact q
def spIsW:Sp:=fun vs H Q _=>∃ z:Str,vs=[.str z]/\z.length<=sizeLine/\Q (.bl (wordB z)) H
theorem scIsW:FnScope ["text"] ["text"] (defScope sIsW):=⟨rfl,rfl,rfl,by decide +kernel,rfl,by decide +kernel,by decide +kernel⟩
theorem ok_isw {f g:Addr} {fd gd:FuncData} (F:Fun K "is_word" "is_word" sIsW f fd) (D:Dfn K mg "has_only" sHas g gd ["text","signs"]) (mall:mg "all" = none) (mlen:mg "len" = none)
  {tl tm:Tok} (mL:mg "LETTERS" = some (.str letters tl)) (mM:mg "MOST_LETTERS" = some (.int 12 tm)):FnOk P w K mg base CX0 2 f fd ["text"] spIsW:=by
 have G:FnOk P w K mg base CX0 1 g gd ["text","signs"] spHas:=ok_has D.fn mall
 refine Fun.okR F scIsW (fun vs H Q E h=>?_) (fun cdv A outer s H vs Q Q2 E hr h hq=>?_)
 ·obtain ⟨z,rfl,_⟩:=h
  rfl
 ·obtain ⟨z,rfl,hz,q⟩:=h
  refine ⟨_,pss_one (ps_ret (pe_and (pe_chain op_le op_le pe_int (pe_callB call_len_str (by rfl) mlen PySem.boot_len (pa_cons (pv 0) pa_nil)) (pe_glob (v:=.int 12) (by rfl) mM ⟨_,rfl⟩))
   (pe_one (pe_call G hr (by rfl) D.at_ D.fn.kp D.bn .nil pass0 (pa_cons (pv 0) (pa_cons (pe_glob (v:=.str letters) (by rfl) mL ⟨_,rfl⟩) pa_nil)))))),?_⟩
  refine ⟨_,rfl,z,rfl,hz,_,_,rfl,rfl,_,rfl,?_⟩
  refine ite2 (fun h1=>?_) (fun h1=>?_)
  ·refine ⟨_,_,rfl,rfl,_,rfl,?_⟩
   refine ite2 (fun h2=>?_) (fun h2=>?_)
   ·refine ⟨_,rfl,z,letters,rfl,hz,hq _ _ (Rst.same (Same.refl H) ?_)⟩
    have e:wordB z=onlyB z letters:=by
     unfold wordB
     rw [decide_eq_true (show 1<=z.length/\z.length<=12 from ⟨by have:=of_decide_eq_true h1;omega,by have:=of_decide_eq_true h2;omega⟩),Bool.true_and]
    rw [<-e];exact q
   ·refine hq _ _ (Rst.same (Same.refl H) ?_)
    have e:wordB z=false:=by
     unfold wordB
     rw [decide_eq_false (fun c=>h2 (decide_eq_true (by have:=c.2;omega))),Bool.false_and]
    rw [<-e];exact q
  ·refine ⟨_,rfl,iteF (hq _ _ (Rst.same (Same.refl H) ?_))⟩
   have e:wordB z=false:=by
    unfold wordB
    rw [decide_eq_false (fun c=>h1 (decide_eq_true (by have:=c.1;omega))),Bool.false_and]
   rw [<-e];exact q
def spWr:Sp:=fun vs H Q _=>∃ z:Str,vs=[.str z]/\z.length<=sizeLine/\Q (.bl (writesB z)) H
theorem scWr:FnScope ["text"] ["text"] (defScope sWr):=⟨rfl,rfl,rfl,by decide +kernel,rfl,by decide +kernel,by decide +kernel⟩
theorem sign_eq (c d:Nat):(V.str ⟨#[c]⟩=V.str ⟨#[d]⟩) ↔ c=d:=⟨fun e=>by injection e with e;injection e with e;simpa using e,fun e=>by rw [e]⟩
theorem nought_eq:Str.ofString "0" = (⟨#[48]⟩:Str):=by decide +kernel
theorem ok_wr {f g:Addr} {fd gd:FuncData} (F:Fun K "writes_number" "writes_number" sWr f fd) (D:Dfn K mg "has_only" sHas g gd ["text","signs"]) (mall:mg "all" = none) {tf:Tok} (mF:mg "FIGURES" = some (.str figures tf)):FnOk P w K mg base CX0 2 f fd ["text"] spWr:=by
 have G:FnOk P w K mg base CX0 1 g gd ["text","signs"] spHas:=ok_has D.fn mall
 refine Fun.okR F scWr (fun vs H Q E h=>?_) (fun cdv A outer s H vs Q Q2 E hr h hq=>?_)
 ·obtain ⟨z,rfl,_⟩:=h
  rfl
 ·obtain ⟨z,rfl,hz,q⟩:=h
  refine ⟨_,pss_cons (ps_if (pw_or (pt_cmpR op_eq (pv 0) pe_str (nomark _)) (pw_or1 (pt_not (pt_val (pe_call G hr (by rfl) D.at_ D.fn.kp D.bn .nil pass0 (pa_cons (pv 0) (pa_cons (pe_glob (v:=.str figures) (by rfl) mF ⟨_,rfl⟩) pa_nil))))))).pt (pss_one (ps_ret pe_bl)) pss_nil)
   (pss_one (ps_ret (pe_or (pe_cmpR op_eq (pv 0) pe_str (nomark _)) (pe_one (pe_cmpR op_ne (pe_ix ix_str (pv 0) pe_int (fun _ _=>rfl)) pe_str (nomark _)))))),?_⟩
  have go:∀ b,writesB z=b->Q2 (.bl b) H:=fun b e=>hq _ _ (Rst.same (Same.refl H) (by rw [<-e];exact q))
  refine ⟨_,rfl,rfl,_,rfl,?_⟩
  refine ite2 (fun h=>?_) (fun h=>?_)
  ·have e:=of_decide_eq_true h
   injection e with e
   exact iteT (go _ (by unfold writesB;rw [if_pos e]))
  have hne:¬ z=Str.ofString "" := fun e=>h (decide_eq_true (by rw [e]))
  refine ⟨_,rfl,z,figures,rfl,hz,_,rfl,?_⟩
  cases ho:onlyB z figures with
  | false=>exact iteT (go _ (by unfold writesB;rw [if_neg hne,ho];rfl))
  | true=>
   refine iteF ⟨_,rfl,rfl,_,rfl,?_⟩
   have ew:writesB z=(decide (z=Str.ofString "0") || !decide (z.cps.toList[0]?=some 48)):=by unfold writesB;rw [if_neg hne,ho];rfl
   refine ite2 (fun h0=>?_) (fun h0=>?_)
   ·have e:=of_decide_eq_true h0
    injection e with e
    exact go _ (by rw [ew,decide_eq_true e,Bool.true_or])
   ·have e0:¬ z=Str.ofString "0" := fun e=>h0 (decide_eq_true (by rw [e]))
    have hl:0 < z.cps.toList.length:=List.length_pos_iff.mpr (ne_nil hne)
    refine ⟨_,rfl,z,0,z.cps.toList[0],rfl,rfl,hz,atI_nat (j:=0) (List.getElem?_eq_getElem hl),rfl,go _ ?_⟩
    rw [ew,decide_eq_false e0,Bool.false_or,List.getElem?_eq_getElem hl]
    congr 1
    refine decide_eq_decide.mpr ?_
    rw [nought_eq,sign_eq]
    exact ⟨fun e=>Option.some.inj e,fun e=>by rw [e]⟩
def spNum:Sp:=fun vs H Q _=>∃ (z:Str) (most:Int),vs=[.str z,.int most]/\z.length<=10000/\0<=most/\most<=10 ^ 30/\Q (optV (pnum z most)) H
theorem scNum:FnScope ["text","most","number"] ["text","most"] (defScope sNum):=⟨rfl,rfl,rfl,by decide +kernel,rfl,by decide +kernel,by decide +kernel⟩
theorem wr_parts {z:Str} (h:writesB z=true):z ≠ Str.ofString ""/\onlyB z figures=true:=by
 unfold writesB at h
 by_cases h0:z=Str.ofString ""
 ·rw [if_pos h0] at h;cases h
 ·rw [if_neg h0] at h
  refine ⟨h0,?_⟩
  by_cases h1:onlyB z figures=true
  ·exact h1
  ·rw [if_neg h1] at h;cases h
theorem ok_num {f g gH:Addr} {fd gd dH:FuncData} (F:Fun K "number_of" "number_of" sNum f fd) (D:Dfn K mg "writes_number" sWr g gd ["text"]) (DH:Dfn K mg "has_only" sHas gH dH ["text","signs"]) (mall:mg "all" = none) (mlen:mg "len" = none) (mstr:mg "str" = none) (mint:mg "int" = none)
  {tf:Tok} (mF:mg "FIGURES" = some (.str figures tf)):FnOk P w K mg base CX0 3 f fd ["text","most"] spNum:=by
 have G:FnOk P w K mg base CX0 2 g gd ["text"] spWr:=ok_wr D.fn DH mall mF
 refine Fun.okR F scNum (fun vs H Q E h=>?_) (fun cdv A outer s H vs Q Q2 E hr h hq=>?_)
 ·obtain ⟨z,m,rfl,_⟩:=h
  rfl
 ·obtain ⟨z,m,rfl,hz,h0,h1,q⟩:=h
  refine ⟨_,pss_cons (ps_if (pw_or (pt_not (pt_val (pe_call G hr (by rfl) D.at_ D.fn.kp D.bn .nil pass0 (pa_cons (pv 0) pa_nil)))) (pw_or1 (pt_cmpR op_gt (pe_callB call_len_str (by rfl) mlen PySem.boot_len (pa_cons (pv 0) pa_nil)) (pe_callB call_len_str (by rfl) mlen PySem.boot_len (pa_cons (pe_callTy call_str_int (by rfl) mstr boot_str (pa_cons (pv 1) pa_nil)) pa_nil)) (nomark _)))).pt (pss_one (ps_ret pe_non)) pss_nil)
   (pss_cons (ps_set (i:=2) scNum.nd rfl (Or.inl rfl) (pe_callTy call_int_text (by rfl) mint boot_int (pa_cons (pv 0) pa_nil)))
   (pss_one (ps_ret (pe_ifExp (pt_cmpR op_le (pv 2) (pv 1) (nomark _)) (pv 2) pe_non)))),?_⟩
  have go:∀ o,pnum z m=o->Q2 (optV o) H:=fun b e=>hq _ _ (Rst.same (Same.refl H) (by rw [<-e];exact q))
  have hm40:m < 10 ^ 40:=by omega
  refine ⟨_,rfl,z,rfl,few (by omega),_,rfl,?_⟩
  cases hw:writesB z with
  | false=>exact iteT (iteT (go none (by unfold pnum;rw [hw];rfl)))
  | true=>
   obtain ⟨hne,ho⟩:=wr_parts hw
   have hnl:=numS_len h0 hm40
   refine iteF ⟨_,rfl,z,rfl,few (by omega),_,rfl,m,rfl,log_ok h0 hm40,numS m,rfl,few (by omega),_,_,rfl,rfl,_,rfl,?_⟩
   refine ite2 (fun h=>?_) (fun h=>?_)
   ·have hl:=of_decide_eq_true h
    exact go none (pnum_long (most_lt h0) (numS_pos m h0) (by omega))
   ·have hl:¬ (((numS m).length:Int) < (z.length:Int)):=fun c=>h (decide_eq_true c)
    refine ⟨_,rfl,z,_,rfl,digits_read ho hne (by omega),by omega,?_⟩
    refine ⟨_,rfl,_,rfl,_,_,rfl,rfl,_,rfl,?_⟩
    refine ite2 (fun h2=>?_) (fun h2=>?_)
    ·exact ⟨_,rfl,go (some _) (by unfold pnum;rw [hw,if_pos rfl,if_pos (of_decide_eq_true h2)])⟩
    ·exact go none (by unfold pnum;rw [hw,if_pos rfl,if_neg fun c=>h2 (decide_eq_true c)])
def pureC (cs:List (Addr × List V)):List (List V):=cs.map fun x=>x.2
theorem pureC_at {cs:List (Addr × List V)} {i:Nat} (hi:i < cs.length):(pureC cs).getD i []=cs[i].2:=by
 unfold pureC
 rw [List.getD_eq_getElem?_getD,List.getElem?_map,List.getElem?_eq_getElem hi]
 rfl
theorem notesTo_len (cs:List (List V)) (n:Nat):(notesTo cs n).length<=n:=by
 unfold notesTo
 exact Nat.le_trans (List.length_filter_le _ _) (by rw [List.length_map,List.length_range];exact Nat.le_refl _)
theorem rdgsOf_len (es:List V):(rdgsOf es).length<=es.length:=by
 unfold rdgsOf
 rw [List.length_map]
 exact entTo_len es es.length
def spReadings:Sp:=fun vs H Q _=>∃ (p:Addr) (es:List V),vs=[.ref p]/\H p=some (.tup es)/\(∀ e ∈ es,Ent e)/\1<=es.length/\es.length<=30 ∧
 ∀ (H':Hp) (r:Addr) (xs:List (Addr × Rdg)),Same H H'->H' r=some (.tup (xs.map fun y=>V.ref y.1))->(∀ y ∈ xs,RdgAt H' y.1 y.2)->(xs.map fun y=>y.2)=rdgsOf es->Q (.ref r) H'
theorem scRdf:FnScope ["column","readings","row","entry"] ["column"] (defScope sRdf):=⟨rfl,rfl,rfl,by decide +kernel,rfl,by decide +kernel,by decide +kernel⟩
theorem tup_dn {P:Program} {w:World} {H:Hp} {a d:Addr} {xs:List V} {kvs:List (Option Str × V)} (h:H a=some (.tup xs)) (h2:H d=some (DN P w d kvs)):a ≠ d:=ne_of h h2 (fun z=>nomatch (show HO.tup xs=HO.ext _ from z))
theorem ok_readings {f:Addr} {fd:FuncData} (F:Fun K "readings_of" "readings_of" sRdf f fd) (mtup:mg "tuple" = none) (menum:mg "enumerate" = none):FnOk P w K mg base CX0 1 f fd ["column"] spReadings:=by
 refine F.ok scRdf (fun vs H Q E h=>?_) (fun cdv A outer s H vs Q E hr h=>?_)
 ·obtain ⟨p,es,rfl,_⟩:=h
  rfl
 ·obtain ⟨p,es,rfl,hp,hE,h1,h30,q⟩:=h
  refine ⟨_,pss_cons (ps_set (i:=1) scRdf.nd rfl (Or.inl rfl) pe_dnewN)
   (pss_cons (ps_for PassesOwn.never rfl (pi_enum (by rfl) menum (pa_cons (pv 0) pa_nil)) (pg_tup (n:=2) rfl (pgs_cons (pg_name (i:=2) scRdf.nd rfl (Or.inl rfl)) (pgs_cons (pg_name (i:=3) scRdf.nd rfl (Or.inl rfl)) pgs_nil)))
   (pss_one (ps_if (pt_cmpR op_ne (pv 3) (pe_ix ix_tup (pv 0) pe_int (fun _ _=>rfl)) (nomark _)) (pss_one (ps_asg (pe_op op_catH (pe_bmN PySem.F.slot_dict_get PySem.F.type_dict_get mt_dgetN (pv 1) (pa_cons (pv 3) (pa_cons (pe_tup pa_nil) pa_nil))) (pe_tup (pa_cons (pv 2) pa_nil))) (pg_sub (pv 1) (pv 3) set_dictN))) pss_nil)))
   (pss_one (ps_ret (pe_callTy (call_tuple_view rfl) (by rfl) mtup boot_tuple (pa_cons (pe_bmN0 PySem.F.slot_dict_items PySem.F.type_dict_items mt_itemsN (pv 1)) pa_nil))))),?_⟩
  have h0:atI es 0=some (es.getD 0 .non):=atI_nat (j:=0) (by rw [List.getD_eq_getElem?_getD,List.getElem?_eq_getElem (by omega)];rfl)
  have hE0:Ent (es.getD 0 .non):=by rw [List.getD_eq_getElem?_getD,List.getElem?_eq_getElem (by omega)];exact hE _ (List.getElem_mem _)
  refine fun d hd=>?_
  have S0:=same_upd (o:=DN P w d []) hd
  have hp0:=S0 _ _ hp
  refine ⟨_,rfl,p,rfl,⟨_,SqT.of hp0⟩,for_enum (K:=K) (a:=p) (xs:=es) (fun i σ H2=>∃ (ps:List (V × Addr)) (v2 v3:Option V),σ=[some (.ref p),some (.ref d),v2,v3]/\H2 d=some (DN P w d (dnOf ps))/\(ps.map fun q=>q.1)=entTo es i/\(∀ q ∈ ps,H2 q.2=some (.tup ((rowsTo es q.1 i).map natV)))/\Same H H2)
   ⟨[],none,none,rfl,upd_same,rfl,(fun _ z=>nomatch z),S0⟩ (fun i σ H2 _ ⟨_,_,_,_,_,_,_,S⟩=>SqT.of (S _ _ hp)) ?_ ?_⟩
  ·rintro i x σ H2 T hi ⟨ps,v2,v3,rfl,h2d,hps,hA,S2⟩ hT
   have hx:Ent x:=hE x (List.mem_of_getElem? hi)
   have hi':i < es.length:=(List.getElem?_eq_some_iff.mp hi).1
   have hP:∀ q ∈ ps,Ent q.1:=fun q hq=>hE q.1 (entTo_mem i (hps ▸ List.mem_map.mpr ⟨q,hq,rfl⟩)).1
   have hpl:ps.length<=i:=by
    have h1:=congrArg List.length hps
    rw [List.length_map] at h1
    have h2:=entTo_len es i
    omega
   have hgi:es.getD i .non=x:=by rw [List.getD_eq_getElem?_getD,hi];rfl
   have est:=entTo_step hi
   unfold entStep at est
   have T1:=same_upd (o:=.tup [.int ((i:Nat):Int),x]) hT
   have hTT:upd H2 T (.tup [.int ((i:Nat):Int),x]) T=some (.tup [.int ((i:Nat):Int),x]):=upd_same
   have S3:=S2.trans T1
   have h3d:=T1 _ _ h2d
   have hA3:∀ q ∈ ps,upd H2 T (.tup [.int ((i:Nat):Int),x]) q.2=some (.tup ((rowsTo es q.1 i).map natV)):=fun q hq=>T1 _ _ (hA q hq)
   generalize upd H2 T (.tup [.int ((i:Nat):Int),x])=H3 at T1 hTT S3 h3d hA3
   refine ⟨T,_,rfl,SqT.of hTT,rfl,_,_,rfl,_,_,rfl,rfl,?_⟩
   refine ⟨_,rfl,_,rfl,p,_,_,_,rfl,rfl,SqT.of (S3 _ _ hp),h0,ent_scal hx hE0,_,rfl,?_⟩
   have other:∀ y,y ≠ x->rowsTo es y (i+1)=rowsTo es y i:=fun y hy=>by rw [rowsTo_step,if_neg (fun z:es.getD i .non=y=>hy (z.symm.trans hgi)),List.append_nil]
   by_cases c:x=es.getD 0 .non
   ·rw [if_pos c] at est
    rw [decide_eq_true (show x=es.getD 0 .non from c)]
    refine iteF ⟨ps,_,_,rfl,h3d,by rw [est];exact hps,fun q hq=>?_,S3⟩
    have hne:q.1 ≠ x:=fun e=>(entTo_mem i (hps ▸ List.mem_map.mpr ⟨q,hq,rfl⟩)).2 (e.trans c)
    rw [other _ hne]
    exact hA3 q hq
   rw [if_neg c] at est
   rw [decide_eq_false (show ¬ x=es.getD 0 .non from c)]
   refine iteT ?_
   refine ⟨_,rfl,d,_,rfl,h3d,_,rfl,few (by show 0<=_;omega),fun t0 ht0=>?_⟩
   have T4:=same_upd (o:=.tup []) ht0
   have h44:upd H3 t0 (.tup []) t0=some (.tup []):=upd_same
   have h4d:=T4 _ _ h3d
   have hA4:∀ q ∈ ps,upd H3 t0 (.tup []) q.2=some (.tup ((rowsTo es q.1 i).map natV)):=fun q hq=>T4 _ _ (hA3 q hq)
   have S4:=S3.trans T4
   generalize upd H3 t0 (.tup [])=H4 at T4 h44 h4d hA4 S4
   refine ⟨d,_,vKey x,_,rfl,by rw [vKey_ent hx],h4d,?_⟩
   obtain ⟨b,eb,hb⟩:∃ b,(valV (dnOf ps) (vKey x)).getD (.ref t0)=.ref b/\H4 b=some (.tup ((rowsTo es x i).map natV)):=by
    by_cases m:x ∈ ps.map (fun q=>q.1)
    ·obtain ⟨a,ha,e⟩:=dn_some hP hx m
     exact ⟨a,by rw [e];rfl,hA4 _ ha⟩
    ·refine ⟨t0,by rw [dn_none hP hx m];rfl,?_⟩
     rw [rows_none i (by omega) (hps ▸ m) c]
     exact h44
   rw [eb]
   refine ⟨_,rfl,few (by show 1<=_;omega),fun t1 ht1=>?_⟩
   have T5:=same_upd (o:=.tup [V.int ((i:Nat):Int)]) ht1
   have hrl:=rowsTo_len es x i
   refine ⟨b,t1,_,_,rfl,rfl,T5 _ _ hb,upd_same,(by rw [List.length_map];exact few (by show _+1<=_;omega)),fun r H6 S6 h6=>?_⟩
   have S46:=T5.trans S6
   have h6d:=S46 _ _ h4d
   have S06:=S4.trans S46
   have hA6:∀ q ∈ ps,H6 q.2=some (.tup ((rowsTo es q.1 i).map natV)):=fun q hq=>S46 _ _ (hA4 q hq)
   have er:(rowsTo es x i).map natV++[V.int ((i:Nat):Int)]=(rowsTo es x (i+1)).map natV:=by
    rw [rowsTo_step,if_pos hgi,List.map_append]
    rfl
   rw [er] at h6
   have hsame:∀ kvs,Same H (upd H6 d (DN P w d kvs)):=fun kvs=>same_to S06 hd
   have keep:∀ {a:Addr} {ys:List V} {kvs:List (Option Str × V)},H6 a=some (.tup ys)->upd H6 d (DN P w d kvs) a=some (.tup ys):=fun {a ys kvs} h=>by
    rw [upd_ne (tup_dn h h6d)];exact h
   refine ⟨_,rfl,_,rfl,d,_,vKey x,rfl,(vKey_ent hx).symm,h6d,(by unfold dnOf;rw [List.length_map];exact fewer (by omega)),?_⟩
   by_cases m:x ∈ ps.map (fun q=>q.1)
   ·rw [if_pos (hps ▸ m)] at est
    rw [dn_put hP hx m]
    refine ⟨_,_,_,rfl,upd_same,?_,fun q hq=>?_,hsame _⟩
    ·rw [est,<-hps,List.map_map]
     refine List.map_congr_left fun q _=>?_
     show (if q.1=x then (q.1,r) else q).1=q.1
     split <;> rfl
    ·obtain ⟨q0,hq0,rfl⟩:=List.mem_map.mp hq
     by_cases e:q0.1=x
     ·rw [if_pos e]
      show upd H6 d _ r=some (.tup ((rowsTo es q0.1 (i+1)).map natV))
      rw [e]
      exact keep h6
     ·rw [if_neg e,other _ e]
      exact keep (hA6 q0 hq0)
   ·rw [if_neg (hps ▸ m)] at est
    rw [dn_new hP hx m]
    refine ⟨_,_,_,rfl,upd_same,by rw [est,<-hps,List.map_append];rfl,fun q hq=>?_,hsame _⟩
    rcases List.mem_append.mp hq with hq | hq
    ·rw [other _ (fun e=>m (e ▸ List.mem_map.mpr ⟨q,hq,rfl⟩))]
     exact keep (hA6 q hq)
    ·rw [List.mem_singleton.mp hq]
     exact keep h6
  ·rintro σ H2 ⟨ps,v2,v3,rfl,h2d,hps,hA,S2⟩
   have hP:∀ q ∈ ps,Ent q.1:=fun q hq=>hE q.1 (entTo_mem _ (hps ▸ List.mem_map.mpr ⟨q,hq,rfl⟩)).1
   refine ⟨_,rfl,d,_,rfl,h2d,d,_,rfl,rfl,h2d,fun v hv=>?_⟩
   have T3:=same_upd (o:=ViewO v d) hv
   refine ⟨v,d,_,rfl,upd_same,T3 _ _ h2d,fun H' t as S3 _ ht hPr=>?_⟩
   have S23:Same H2 H':=fun b o e=>S3 _ _ (T3 _ _ e)
   have hlen:as.length=ps.length:=by rw [hPr.len];unfold dnOf;rw [List.length_map]
   refine q H' t (List.zipWith (fun a q=>(a,(q.1,rowsTo es q.1 es.length))) as ps) (S2.trans S23) ?_ (fun y hy=>?_) ?_
   ·rw [ht,List.map_zipWith]
    congr 2
    exact (Vm.zip_fst V.ref as ps hlen).symm
   ·obtain ⟨j,hj⟩:=List.mem_iff_getElem?.mp hy
    rw [List.getElem?_zipWith] at hj
    cases ea:as[j]? with
    | none=>rw [ea] at hj;cases hj
    | some a=>
     cases ep:ps[j]? with
     | none=>rw [ea,ep] at hj;cases hj
     | some qq=>
      rw [ea,ep] at hj
      cases hj
      have hm:=List.mem_of_getElem? ep
      have hmem:qq.1 ∈ entTo es es.length:=hps ▸ List.mem_map.mpr ⟨qq,hm,rfl⟩
      have h3:=hPr.item j a (vKey qq.1) (.ref qq.2) ea (by unfold dnOf;rw [List.getElem?_map,ep];rfl)
      rw [vKey_ent (hP qq hm)] at h3
      exact ⟨rdgs_ok hE h30 hmem,qq.2,h3,S23 _ _ (hA qq hm)⟩
   ·rw [List.map_zipWith]
    unfold rdgsOf
    rw [<-hps,List.map_map]
    exact Vm.zip_snd (fun q:V × Addr=>(q.1,rowsTo es q.1 es.length)) as ps hlen
theorem headS_eq (es:List V):headS es=Str.join (Str.ofString " | ") (es.map entS):=rfl
def spEW:Sp:=fun vs H Q _=>∃ v,vs=[v]/\Ent v/\Q (.str (entS v)) H
theorem scEW:FnScope ["entry"] ["entry"] (defScope sEW):=⟨rfl,rfl,rfl,by decide +kernel,rfl,by decide +kernel,by decide +kernel⟩
theorem ok_ew {f:Addr} {fd:FuncData} (F:Fun K "entry_written" "entry_written" sEW f fd) {tn:Tok} (mN:mg "NO_ENTRY" = some (.str (Str.ofString "-") tn)):FnOk P w K mg base CX0 1 f fd ["entry"] spEW:=by
 refine Fun.okR F scEW (fun vs H Q E h=>?_) (fun cdv A outer s H vs Q Q2 E hr h hq=>?_)
 ·obtain ⟨v,rfl,_⟩:=h
  rfl
 ·obtain ⟨v,rfl,hv,q⟩:=h
  refine ⟨_,pss_one (ps_ret (pe_ifExp (pt_cmpR op_isN (pv 0) pe_non (nomark _)) (pe_glob (v:=.str (Str.ofString "-")) (by rfl) mN ⟨_,rfl⟩) (pv 0))),?_⟩
  have go:Q2 (.str (entS v)) H:=hq _ _ (Rst.same (Same.refl H) q)
  refine ⟨_,rfl,rfl,_,rfl,?_⟩
  rcases hv with rfl | ⟨z,_,rfl⟩
  ·exact iteY rfl go
  ·exact iteK (fun z=>nomatch z) ⟨_,rfl,go⟩
def spRW (K:PySem.W.Frag):Sp:=fun vs H Q _=>∃ (e:V) (r:Addr) (rows:List Nat),vs=[e,.ref r]/\SqT K H r (rows.map natV)/\RdgOk (e,rows)/\Q (.str (rdgS (e,rows))) H
theorem scRW:FnScope ["entry","rows"] ["entry","rows"] (defScope sRW):=⟨rfl,rfl,rfl,by decide +kernel,rfl,by decide +kernel,by decide +kernel⟩
theorem ok_rw {f gE:Addr} {fd dE:FuncData} (F:Fun K "reading_written" "reading_written" sRW f fd) (DE:Dfn K mg "entry_written" sEW gE dE ["entry"]) (mstr:mg "str" = none) {tn:Tok} (mN:mg "NO_ENTRY" = some (.str (Str.ofString "-") tn)):FnOk P w K mg base CX0 2 f fd ["entry","rows"] (spRW K):=by
 have GE:FnOk P w K mg base CX0 1 gE dE ["entry"] spEW:=ok_ew DE.fn mN
 refine Fun.okR F scRW (fun vs H Q E h=>?_) (fun cdv A outer s H vs Q Q2 E hr h hq=>?_)
 ·obtain ⟨e,r,rows,rfl,_⟩:=h
  rfl
 ·obtain ⟨e,r,rows,rfl,hr1,ho,q⟩:=h
  refine ⟨_,pss_one (ps_ret (pe_op op_add_str (pe_op op_add_str (pe_call GE hr (by rfl) DE.at_ DE.fn.kp DE.bn .nil pass0 (pa_cons (pv 0) pa_nil)) pe_str) (pe_bm PySem.F.plainAttrs_str PySem.F.slot_str_join PySem.F.type_str_join mt_join pe_str (pa_cons (pe_comp (Nc:=["row"]) (mp:=[none]) rfl (CompOk.of (by rfl)) (pi_tup (pv 1))
   (fun cl C s H fp=>⟨pg_name (i:=0) nd_row rfl (Or.inl rfl),pts_nil,pe_callTy call_str_any (by rfl) mstr boot_str (pa_cons (pv 0) pa_nil)⟩)) pa_nil)))),?_⟩
  have l12:(entS e).length<=12:=ent_len ho.1
  have l1:(Str.ofString " ").length=1:=by decide +kernel
  have hrl:(Str.join (Str.ofString ",") (rows.map fun n=>numS ((n:Nat):Int))).length<=100:=rows_len ho
  refine ⟨_,rfl,e,rfl,ho.1,_,_,rfl,rfl,few (by rw [l1];omega),rfl,_,rfl,r,rfl,⟨_,hr1⟩,comp_map (as:=rows) (v:=natV) (fun n=>.str (numS ((n:Nat):Int))) (src_tup hr1) (few (by have h30:rows.length<=30:=ho.2.1;omega)) (fun n hn k hk=>?_) (fun D hD=>?_)⟩
  ·have:=ho.2.2 n hn
   exact ⟨_,rfl,.inl ⟨((n:Nat):Int),rfl,log_ok (by omega) (by omega),hk⟩⟩
  ·refine ⟨_,D,rows.map fun n=>numS ((n:Nat):Int),rfl,rfl,.inl (SqL.of (by rw [upd_same,List.map_map];rfl)),?_,?_⟩
   ·have h2:(Str.ofString ",").length=1:=by decide +kernel
    have h3:=sum_le (ws:=rows.map fun n=>numS ((n:Nat):Int)) (b:=2) fun z hz=>by
     obtain ⟨n,hn,rfl⟩:=List.mem_map.mp hz
     exact numS_le (k:=1) (by have:=ho.2.2 n hn;omega)
    have h4:rows.length<=30:=ho.2.1
    rw [List.length_map] at h3
    rw [h2,List.length_map]
    omega
   ·rw [tjoin]
    refine ⟨_,_,rfl,rfl,few (by rw [app_len,l1];omega),hq _ _ (Rst.same (same_upd hD) q)⟩
def spNW (K:PySem.W.Frag):Sp:=fun vs H Q _=>∃ (n:Nat) (p:Addr) (xs:List (Addr × Rdg)),vs=[natV n,.ref p]/\SqT K H p (xs.map fun y=>V.ref y.1)/\(∀ y ∈ xs,RdgAt H y.1 y.2)/\xs.length<=30/\n < 10000/\Q (.str (noteS (n,xs))) H
theorem scNW:FnScope ["number","readings"] ["number","readings"] (defScope sNW):=⟨rfl,rfl,rfl,by decide +kernel,rfl,by decide +kernel,by decide +kernel⟩
theorem nd_er:(["entry","rows"]:List Str).Nodup:=by decide +kernel
theorem ok_nw {f gE gR:Addr} {fd dE dR:FuncData} (F:Fun K "note_written" "note_written" sNW f fd) (DE:Dfn K mg "entry_written" sEW gE dE ["entry"]) (DR:Dfn K mg "reading_written" sRW gR dR ["entry","rows"]) (mstr:mg "str" = none) {tn:Tok} (mN:mg "NO_ENTRY" = some (.str (Str.ofString "-") tn)):FnOk P w K mg base CX0 3 f fd ["number","readings"] (spNW K):=by
 have GR:FnOk P w K mg base CX0 2 gR dR ["entry","rows"] (spRW K):=ok_rw DR.fn DE mstr mN
 refine Fun.okR F scNW (fun vs H Q E h=>?_) (fun cdv A outer s H vs Q Q2 E hr h hq=>?_)
 ·obtain ⟨n,p,xs,rfl,_⟩:=h
  rfl
 ·obtain ⟨n,p,xs,rfl,hp,hX,hl,hn,q⟩:=h
  refine ⟨_,pss_one (ps_ret (pe_op op_add_str (pe_op op_add_str (pe_callTy call_str_any (by rfl) mstr boot_str (pa_cons (pv 0) pa_nil)) pe_str) (pe_bm PySem.F.plainAttrs_str PySem.F.slot_str_join PySem.F.type_str_join mt_join pe_str (pa_cons (pe_comp (Nc:=["entry","rows"]) (mp:=[none,none]) rfl (CompOk.of (by rfl)) (pi_tup (pv 1))
   (fun cl C s H fp=>⟨pg_tupK (K:=K) (n:=2) rfl rfl (pgs_cons (pg_name (i:=0) nd_er rfl (Or.inl rfl)) (pgs_cons (pg_name (i:=1) nd_er rfl (Or.inl rfl)) pgs_nil)),pts_nil,pe_call GR hr (by rfl) DR.at_ DR.fn.kp DR.bn .nil pass0 (pa_cons (pv 0) (pa_cons (pv 1) pa_nil))⟩)) pa_nil)))),?_⟩
  have l2:(Str.ofString ": ").length=2:=by decide +kernel
  have l4:=numS_le (m:=n) (k:=3) (by omega)
  have hrl:=rdgs_len (fun y hy=>(hX y hy).1) hl
  obtain ⟨ra,hra⟩:∃ ra:Addr × Rdg->Addr,∀ y ∈ xs,H y.1=some (.tup [y.2.1,.ref (ra y)])/\H (ra y)=some (.tup (y.2.2.map natV)):=by
   classical
   refine ⟨fun y=>if h:∃ r,H y.1=some (.tup [y.2.1,.ref r])/\H r=some (.tup (y.2.2.map natV)) then h.choose else y.1,fun y hy=>?_⟩
   have h:=(hX y hy).2
   dsimp only
   rw [dif_pos h]
   exact h.choose_spec
  refine ⟨_,rfl,.inl ⟨((n:Nat):Int),rfl,log_ok (by omega) (by omega),_,_,rfl,rfl,few (by rw [l2];show (numS ((n:Nat):Int)).length+2<=_;omega),rfl,_,rfl,p,rfl,⟨_,hp⟩,comp_pair (K:=K) (as:=xs) (v:=fun y=>V.ref y.1) (x:=fun y=>y.2.1) (y:=fun y=>V.ref (ra y)) (fun y=>.str (rdgS y.2)) (src_tup hp) (few (by omega)) (fun y hy=>⟨y.1,rfl,SqT.of (hra y hy).1⟩) (fun y hy k hk=>?_) (fun D hD=>?_)⟩⟩
  ·exact ⟨_,rfl,_,rfl,y.2.1,ra y,y.2.2,rfl,SqT.of (hra y hy).2,(hX y hy).1,hk⟩
  ·refine ⟨_,D,xs.map fun y=>rdgS y.2,rfl,rfl,.inl (SqL.of (by rw [upd_same,List.map_map];rfl)),?_,?_⟩
   ·have h2:(Str.ofString "; ").length=2:=by decide +kernel
    have h3:=sum_le (ws:=xs.map fun y=>rdgS y.2) (b:=113) fun z hz=>by
     obtain ⟨y,hy,rfl⟩:=List.mem_map.mp hz
     exact rdg_len (hX y hy).1
    rw [List.length_map] at h3
    rw [h2,List.length_map]
    omega
   ·rw [tjoin]
    refine ⟨_,_,rfl,rfl,few (by rw [app_len,l2];show (numS ((n:Nat):Int)).length+2+_<=100000;omega),hq _ _ (Rst.same (same_upd hD) q)⟩
def spAW (K:PySem.W.Frag):Sp:=fun vs H Q _=>∃ (p r:Addr) (es:List V) (ns:List (Addr × Note)),vs=[.ref p,.ref r]/\SqT K H p es/\(∀ e ∈ es,Ent e)/\SqT K H r (ns.map fun y=>V.ref y.1)/\(∀ y ∈ ns,NoteAt H y.1 y.2)/\es.length<=1200/\ns.length<=1200/\Q (.str (appS es ns)) H
theorem scAW:FnScope ["entries","notes","lines"] ["entries","notes"] (defScope sAW):=⟨rfl,rfl,rfl,by decide +kernel,rfl,by decide +kernel,by decide +kernel⟩
theorem nd_entry:(["entry"]:List Str).Nodup:=by decide +kernel
theorem nd_nr:(["number","readings"]:List Str).Nodup:=by decide +kernel
theorem ok_aw {f gE gR gN:Addr} {fd dE dR dN:FuncData} (F:Fun K "apparatus_written" "apparatus_written" sAW f fd) (DE:Dfn K mg "entry_written" sEW gE dE ["entry"]) (DR:Dfn K mg "reading_written" sRW gR dR ["entry","rows"]) (DN:Dfn K mg "note_written" sNW gN dN ["number","readings"]) (mstr:mg "str" = none) {tn:Tok} (mN:mg "NO_ENTRY" = some (.str (Str.ofString "-") tn)):FnOk P w K mg base CX0 4 f fd ["entries","notes"] (spAW K):=by
 have GE:FnOk P w K mg base CX0 3 gE dE ["entry"] spEW:=(ok_ew DE.fn mN).mono (by decide)
 have GN:FnOk P w K mg base CX0 3 gN dN ["number","readings"] (spNW K):=ok_nw DN.fn DE DR mstr mN
 refine Fun.okR F scAW (fun vs H Q E h=>?_) (fun cdv A outer s H vs Q Q2 E hr h hq=>?_)
 ·obtain ⟨p,r,es,ns,rfl,_⟩:=h
  rfl
 ·obtain ⟨p,r,es,ns,rfl,hp,hE,hr1,hN,hel,hnl,q⟩:=h
  refine ⟨_,pss_cons (ps_set (i:=2) scAW.nd rfl (Or.inl rfl) (pe_lst (pa_cons (pe_bm PySem.F.plainAttrs_str PySem.F.slot_str_join PySem.F.type_str_join mt_join pe_str (pa_cons (pe_comp (Nc:=["entry"]) (mp:=[none]) rfl (CompOk.of (by rfl)) (pi_tup (pv 0))
   (fun cl C s H fp=>⟨pg_name (i:=0) nd_entry rfl (Or.inl rfl),pts_nil,pe_call GE hr (by rfl) DE.at_ DE.fn.kp DE.bn .nil pass0 (pa_cons (pv 0) pa_nil)⟩)) pa_nil)) pa_nil)))
   (pss_cons (ps_expr (pe_bm PySem.F.plainAttrs_list PySem.F.slot_list_extend PySem.F.type_list_extend mt_extend (pv 2) (pa_cons (pe_comp (Nc:=["number","readings"]) (mp:=[none,none]) rfl (CompOk.of (by rfl)) (pi_tup (pv 1))
   (fun cl C s H fp=>⟨pg_tupK (K:=K) (n:=2) rfl rfl (pgs_cons (pg_name (i:=0) nd_nr rfl (Or.inl rfl)) (pgs_cons (pg_name (i:=1) nd_nr rfl (Or.inl rfl)) pgs_nil)),pts_nil,pe_call GN hr (by rfl) DN.at_ DN.fn.kp DN.bn .nil pass0 (pa_cons (pv 0) (pa_cons (pv 1) pa_nil))⟩)) pa_nil)))
   (pss_one (ps_ret (pe_bm PySem.F.plainAttrs_str PySem.F.slot_str_join PySem.F.type_str_join mt_join pe_str (pa_cons (pv 2) pa_nil))))),?_⟩
  refine ⟨rfl,_,rfl,p,rfl,⟨_,hp⟩,comp_map (as:=es) (v:=id) (fun e=>.str (entS e)) (by rw [List.map_id];exact src_tup hp) (few (by omega)) (fun e he k hk=>⟨_,rfl,e,rfl,hE e he,hk⟩) (fun D hD=>?_)⟩
  have S1:=same_upd (o:=.lst (es.map fun e=>V.str (entS e))) hD
  have h2:(Str.ofString " | ").length=3:=by decide +kernel
  have h3:=sum_le (ws:=es.map entS) (b:=12) fun z hz=>by
   obtain ⟨e,he,rfl⟩:=List.mem_map.mp hz
   exact ent_len (hE e he)
  rw [List.length_map] at h3
  refine ⟨_,D,es.map entS,rfl,rfl,.inl (SqL.of (by rw [upd_same,List.map_map];rfl)),by rw [h2,List.length_map];omega,?_⟩
  rw [tjoin,<-headS_eq]
  refine ⟨few (by show 1<=_;omega),fun l hl=>?_⟩
  have S2:=same_upd (o:=.lst [V.str (headS es)]) hl
  have S12:=S1.trans S2
  have hl2:upd (upd H D (.lst (es.map fun e=>V.str (entS e)))) l (.lst [V.str (headS es)]) l=some (.lst [V.str (headS es)]):=upd_same
  have hln:H l=none:=S1.free hl
  generalize hH2:upd (upd H D (.lst (es.map fun e=>V.str (entS e)))) l (.lst [V.str (headS es)])=H2 at S12 hl2
  have hr2:=sameT S12 hr1
  have hN2:∀ y ∈ ns,NoteAt H2 y.1 y.2:=fun y hy=>(hN y hy).mono S12
  obtain ⟨qa,hqa⟩:∃ qa:Addr × Note->Addr,∀ y ∈ ns,H2 y.1=some (.tup [natV y.2.1,.ref (qa y)])/\H2 (qa y)=some (.tup (y.2.2.map fun z=>V.ref z.1)):=by
   classical
   refine ⟨fun y=>if h:∃ q,H2 y.1=some (.tup [natV y.2.1,.ref q])/\H2 q=some (.tup (y.2.2.map fun z=>V.ref z.1)) then h.choose else y.1,fun y hy=>?_⟩
   have h:=(hN2 y hy).2.2.2
   dsimp only
   rw [dif_pos h]
   exact h.choose_spec
  refine ⟨_,rfl,.inl ⟨rfl,_,SqL.of hl2⟩,_,rfl,r,rfl,⟨_,hr2⟩,comp_pair (K:=K) (as:=ns) (v:=fun y=>V.ref y.1) (x:=fun y=>natV y.2.1) (y:=fun y=>V.ref (qa y)) (fun y=>.str (noteS y.2)) (src_tup hr2) (few (by omega)) (fun y hy=>⟨y.1,rfl,SqT.of (hqa y hy).1⟩) (fun y hy k hk=>?_) (fun D3 hD3=>?_)⟩
  ·exact ⟨_,rfl,_,rfl,y.2.1,qa y,y.2.2,rfl,SqT.of (hqa y hy).2,(hN2 y hy).2.2.1,(hN2 y hy).2.1,(hN2 y hy).1,hk⟩
  ·have S3:=same_upd (o:=.lst (ns.map fun y=>V.str (noteS y.2))) hD3
   have hl3:=S3 _ _ hl2
   refine ⟨l,D3,_,_,rfl,rfl,hl3,upd_same,few (by rw [List.length_map];show 1+_<=_;omega),?_⟩
   refine ⟨rfl,_,rfl,_,l,headS es :: ns.map (fun y=>noteS y.2),rfl,rfl,.inl (SqL.of (by rw [upd_same,List.map_cons,List.map_map];rfl)),?_,?_⟩
   ·have hh:=head_len hE
    have h5:(Str.ofString "\n").length=1:=by decide +kernel
    have h6:=sum_le (ws:=ns.map fun y=>noteS y.2) (b:=3500) fun z hz=>by
     obtain ⟨y,hy,rfl⟩:=List.mem_map.mp hz
     exact note_len (hN y hy)
    rw [List.length_map] at h6
    rw [h5,List.map_cons,List.sum_cons,List.length_cons,List.length_map]
    omega
   ·rw [tjoin]
    exact hq _ _ (Rst.same (same_to (S12.trans S3) hln) q)
theorem nd_nuco:(["number","column"]:List Str).Nodup:=by decide +kernel
theorem nd_note:(["note"]:List Str).Nodup:=by decide +kernel
def spNof (K:PySem.W.Frag):Sp:=fun vs H Q _=>∃ (p:Addr) (cs:List (Addr × List V)) (m:Nat),vs=[.ref p]/\SqT K H p (cs.map fun x=>V.ref x.1)/\ColsAt H cs m/\1<=m/\m<=30/\cs.length<=1200 ∧
 ∀ (H':Hp) (r:Addr) (ns:List (Addr × Note)),Same H H'->H' r=some (.tup (ns.map fun y=>V.ref y.1))->(∀ y ∈ ns,NoteAt H' y.1 y.2)->(ns.map fun y=>toldN y.2)=notesTo (pureC cs) cs.length->Q (.ref r) H'
theorem scNof:FnScope ["collation","notes"] ["collation"] (defScope sNof):=⟨rfl,rfl,rfl,by decide +kernel,rfl,by decide +kernel,by decide +kernel⟩
theorem ok_nof {f gR:Addr} {fd dR:FuncData} (F:Fun K "notes_of" "notes_of" sNof f fd) (DR:Dfn K mg "readings_of" sRdf gR dR ["column"]) (mlen:mg "len" = none) (mtup:mg "tuple" = none) (menum:mg "enumerate" = none):FnOk P w K mg base CX0 2 f fd ["collation"] (spNof K):=by
 have GR:FnOk P w K mg base CX0 1 gR dR ["column"] spReadings:=ok_readings DR.fn mtup menum
 refine F.ok scNof (fun vs H Q E h=>?_) (fun cdv A outer s H vs Q E hr h=>?_)
 ·obtain ⟨p,cs,m,rfl,_⟩:=h
  rfl
 ·obtain ⟨p,cs,m,rfl,hp,hC,m1,m30,hcl,q⟩:=h
  refine ⟨_,pss_cons (ps_setC (i:=1) (Nc:=["number","column"]) (mp:=[none,none]) rfl scNof.nd rfl rfl (CompOk.of (by rfl)) (pi_enum (by rfl) menum (pa_cons (pv 0) pa_nil)) (fun cl C s H fp=>⟨pg_tupK (K:=K) (n:=2) rfl rfl (pgs_cons (pg_name (i:=0) nd_nuco rfl (Or.inl rfl)) (pgs_cons (pg_name (i:=1) nd_nuco rfl (Or.inl rfl)) pgs_nil)),pts_nil,(pe_tup (pa_cons (pv 0) (pa_cons (pe_call GR hr (by rfl) DR.at_ DR.fn.kp DR.bn .nil pass0 (pa_cons (pv 1) pa_nil)) pa_nil)))⟩))
   (pss_one (ps_ret (pe_callTy call_tuple_of (by rfl) mtup boot_tuple (pa_cons (pe_comp (Nc:=["note"]) (mp:=[none]) rfl (CompOk.of (by rfl)) (pi_list (pv 1)) (fun cl C s H fp=>⟨pg_name (i:=0) nd_note rfl (Or.inl rfl),pts_one (pt_cmpR op_gt (pe_callB (call_len_seqK (K:=K) rfl) (by rfl) mlen PySem.boot_len (pa_cons (pe_ix (ix_tupK (K:=K) rfl) (pv 0) pe_int (fun _ _=>rfl)) pa_nil)) pe_int (nomark _)),(pv 0)⟩)) pa_nil)))),?_⟩
  refine ⟨_,rfl,p,rfl,⟨_,hp⟩,comp_enumG (K:=K) (t:=p) (xs:=cs.map fun x=>V.ref x.1) (fun i acc H2=>∃ ns:List (Addr × Note),acc=(ns.map fun y=>V.ref y.1)/\ns.length=i/\Same H H2/\(∀ y ∈ ns,NoteAt H2 y.1 y.2)/\(ns.map fun y=>toldN y.2)=(List.range i).map fun j=>(j,rdgsOf ((pureC cs).getD j [])))
   (fun i acc H2 _ ⟨_,_,_,S,_⟩=>sameT S hp) (by rw [List.length_map];exact few (by omega)) ⟨[],rfl,rfl,Same.refl _,(fun _ z=>nomatch z),rfl⟩ (fun i acc H2 ⟨ns,e,hl,_⟩=>by rw [e,List.length_map,hl])
   (fun i acc H2 H3 ⟨ns,e,hl,S,hN,ht⟩ S3=>⟨ns,e,hl,S.trans S3,fun y hy=>(hN y hy).mono S3,ht⟩) ?_ ?_⟩
  ·rintro i x acc H2 hi ⟨ns,rfl,hnl,S2,hN,hto⟩ k hk
   rw [List.getElem?_map] at hi
   obtain ⟨c,hci,rfl⟩:=Option.map_eq_some_iff.mp hi
   have hil:i < cs.length:=(List.getElem?_eq_some_iff.mp hci).1
   have ec:cs[i]=c:=(List.getElem?_eq_some_iff.mp hci).2
   obtain ⟨hc1,hc2,hc3⟩:=(hC.mono S2) c (List.mem_of_getElem? hci)
   refine ⟨_,rfl,_,rfl,c.1,c.2,rfl,hc1,hc3,by omega,by omega,fun H3 r xs S3 h3 hX hxe=>?_⟩
   have hxl:xs.length<=30:=by
    have h1:=congrArg List.length hxe
    rw [List.length_map] at h1
    have h2:=rdgsOf_len c.2
    omega
   refine ⟨few (by show 2<=_;omega),fun t5 ht5=>?_⟩
   have S5:=same_upd (o:=.tup [.int ((i:Nat):Int),.ref r]) ht5
   have h5:upd H3 t5 (.tup [.int ((i:Nat):Int),.ref r]) t5=some (.tup [natV i,.ref r]):=upd_same
   have h35:=S5 _ _ h3
   refine hk _ _ ⟨ns++[(t5,(i,xs))],by rw [List.map_append];rfl,by rw [List.length_append,hnl];rfl,(S2.trans S3).trans S5,fun y hy=>?_,?_⟩
   ·rcases List.mem_append.mp hy with hy | hy
    ·exact (hN y hy).mono (S3.trans S5)
    ·rw [List.mem_singleton.mp hy]
     exact ⟨by show i < 10000;omega,hxl,fun y hy=>(hX y hy).mono S5,r,h5,h35⟩
   ·rw [List.map_append,List.range_succ,List.map_append,hto]
    congr 1
    show [(i,xs.map fun z=>z.2)]=[(i,rdgsOf ((pureC cs).getD i []))]
    rw [hxe,pureC_at hil,ec]
  ·rintro acc H2 ⟨ns,rfl,hnl,S2,hN,hto⟩ D hD
   rw [List.length_map] at hnl hto
   have S3:=same_upd (o:=.lst (ns.map fun y=>V.ref y.1)) hD
   have h33:upd H2 D (.lst (ns.map fun y=>V.ref y.1)) D=some (.lst (ns.map fun y=>V.ref y.1)):=upd_same
   have hN3:∀ y ∈ ns,NoteAt (upd H2 D (.lst (ns.map fun y=>V.ref y.1))) y.1 y.2:=fun y hy=>(hN y hy).mono S3
   have S03:=S2.trans S3
   generalize upd H2 D (.lst (ns.map fun y=>V.ref y.1))=H3 at S3 h33 hN3 S03
   refine ⟨_,rfl,D,rfl,⟨_,SqL.of h33⟩,comp_pure (as:=ns) (v:=fun y=>V.ref y.1) (fun y=>decide (((y.2.2.map fun z=>V.ref z.1).length:Int) > 0)) (fun y=>V.ref y.1) (src_list (SqL.of h33)) (few (by omega)) (fun y hy kc hk=>?_) (fun y hy _ kc hk=>⟨_,rfl,hk⟩) fun D4 hD4=>?_⟩
   ·obtain ⟨h1,h2,h3,qa,h4,h5⟩:=hN3 y hy
    exact ⟨_,rfl,y.1,_,_,_,rfl,rfl,SqT.of h4,atI_nat (j:=1) rfl,qa,_,rfl,.inr (SqT.of h5),_,_,rfl,rfl,_,rfl,hk⟩
   ·have S4:=same_upd (o:=.lst ((ns.filter fun y=>decide (((y.2.2.map fun z=>V.ref z.1).length:Int) > 0)).map fun y=>V.ref y.1)) hD4
    refine ⟨D4,_,rfl,.inl ⟨SqL.of upd_same,fun r hr5=>?_⟩⟩
    have S5:=same_upd (o:=.tup ((ns.filter fun y=>decide (((y.2.2.map fun z=>V.ref z.1).length:Int) > 0)).map fun y=>V.ref y.1)) hr5
    refine q _ r _ ((S03.trans S4).trans S5) upd_same (fun y hy=>((hN3 y (List.mem_filter.mp hy).1).mono S4).mono S5) ?_
    unfold notesTo
    rw [<-hto,List.filter_map]
    refine congrArg _ (List.filter_congr fun y _=>?_)
    show decide (((y.2.2.map fun z=>V.ref z.1).length:Int) > 0)=!(y.2.2.map fun z=>z.2).isEmpty
    cases y.2.2 with
    | nil=>rfl
    | cons a r=>rw [decide_eq_true (by rw [List.length_map,List.length_cons];omega)];rfl
def spReadingsL:Sp:=fun vs H Q _=>∃ (p:Addr) (es:List V),vs=[.ref p]/\H p=some (.lst es)/\(∀ e ∈ es,Ent e)/\1<=es.length/\es.length<=30 ∧
 ∀ (H':Hp) (r:Addr) (xs:List (Addr × Rdg)),Same H H'->H' r=some (.tup (xs.map fun y=>V.ref y.1))->(∀ y ∈ xs,RdgAt H' y.1 y.2)->(xs.map fun y=>y.2)=rdgsOf es->Q (.ref r) H'
theorem ok_readingsL {f:Addr} {fd:FuncData} (F:Fun K "readings_of" "readings_of" sRdf f fd) (mtup:mg "tuple" = none) (menum:mg "enumerate" = none):FnOk P w K mg base CX0 1 f fd ["column"] spReadingsL:=by
 refine F.ok scRdf (fun vs H Q E h=>?_) (fun cdv A outer s H vs Q E hr h=>?_)
 ·obtain ⟨p,es,rfl,_⟩:=h
  rfl
 ·obtain ⟨p,es,rfl,hp,hE,h1,h30,q⟩:=h
  refine ⟨_,pss_cons (ps_set (i:=1) scRdf.nd rfl (Or.inl rfl) pe_dnewN)
   (pss_cons (ps_for PassesOwn.never rfl (pi_enumL (by rfl) menum (pa_cons (pv 0) pa_nil)) (pg_tup (n:=2) rfl (pgs_cons (pg_name (i:=2) scRdf.nd rfl (Or.inl rfl)) (pgs_cons (pg_name (i:=3) scRdf.nd rfl (Or.inl rfl)) pgs_nil)))
   (pss_one (ps_if (pt_cmpR op_ne (pv 3) (pe_ix ix_list (pv 0) pe_int (fun _ _=>rfl)) (nomark _)) (pss_one (ps_asg (pe_op op_catH (pe_bmN PySem.F.slot_dict_get PySem.F.type_dict_get mt_dgetN (pv 1) (pa_cons (pv 3) (pa_cons (pe_tup pa_nil) pa_nil))) (pe_tup (pa_cons (pv 2) pa_nil))) (pg_sub (pv 1) (pv 3) set_dictN))) pss_nil)))
   (pss_one (ps_ret (pe_callTy (call_tuple_view rfl) (by rfl) mtup boot_tuple (pa_cons (pe_bmN0 PySem.F.slot_dict_items PySem.F.type_dict_items mt_itemsN (pv 1)) pa_nil))))),?_⟩
  have h0:atI es 0=some (es.getD 0 .non):=atI_nat (j:=0) (by rw [List.getD_eq_getElem?_getD,List.getElem?_eq_getElem (by omega)];rfl)
  have hE0:Ent (es.getD 0 .non):=by rw [List.getD_eq_getElem?_getD,List.getElem?_eq_getElem (by omega)];exact hE _ (List.getElem_mem _)
  refine fun d hd=>?_
  have S0:=same_upd (o:=DN P w d []) hd
  have hp0:=S0 _ _ hp
  refine ⟨_,rfl,p,rfl,⟨_,SqL.of hp0⟩,for_enumL (K:=K) (a:=p) (xs:=es) (fun i σ H2=>∃ (ps:List (V × Addr)) (v2 v3:Option V),σ=[some (.ref p),some (.ref d),v2,v3]/\H2 d=some (DN P w d (dnOf ps))/\(ps.map fun q=>q.1)=entTo es i/\(∀ q ∈ ps,H2 q.2=some (.tup ((rowsTo es q.1 i).map natV)))/\Same H H2)
   ⟨[],none,none,rfl,upd_same,rfl,(fun _ z=>nomatch z),S0⟩ (fun i σ H2 _ ⟨_,_,_,_,_,_,_,S⟩=>SqL.of (S _ _ hp)) ?_ ?_⟩
  ·rintro i x σ H2 T hi ⟨ps,v2,v3,rfl,h2d,hps,hA,S2⟩ hT
   have hx:Ent x:=hE x (List.mem_of_getElem? hi)
   have hi':i < es.length:=(List.getElem?_eq_some_iff.mp hi).1
   have hP:∀ q ∈ ps,Ent q.1:=fun q hq=>hE q.1 (entTo_mem i (hps ▸ List.mem_map.mpr ⟨q,hq,rfl⟩)).1
   have hpl:ps.length<=i:=by
    have h1:=congrArg List.length hps
    rw [List.length_map] at h1
    have h2:=entTo_len es i
    omega
   have hgi:es.getD i .non=x:=by rw [List.getD_eq_getElem?_getD,hi];rfl
   have est:=entTo_step hi
   unfold entStep at est
   have T1:=same_upd (o:=.tup [.int ((i:Nat):Int),x]) hT
   have hTT:upd H2 T (.tup [.int ((i:Nat):Int),x]) T=some (.tup [.int ((i:Nat):Int),x]):=upd_same
   have S3:=S2.trans T1
   have h3d:=T1 _ _ h2d
   have hA3:∀ q ∈ ps,upd H2 T (.tup [.int ((i:Nat):Int),x]) q.2=some (.tup ((rowsTo es q.1 i).map natV)):=fun q hq=>T1 _ _ (hA q hq)
   generalize upd H2 T (.tup [.int ((i:Nat):Int),x])=H3 at T1 hTT S3 h3d hA3
   refine ⟨T,_,rfl,SqT.of hTT,rfl,_,_,rfl,_,_,rfl,rfl,?_⟩
   refine ⟨_,rfl,_,rfl,p,_,_,_,rfl,rfl,SqL.of (S3 _ _ hp),h0,ent_scal hx hE0,_,rfl,?_⟩
   have other:∀ y,y ≠ x->rowsTo es y (i+1)=rowsTo es y i:=fun y hy=>by rw [rowsTo_step,if_neg (fun z:es.getD i .non=y=>hy (z.symm.trans hgi)),List.append_nil]
   by_cases c:x=es.getD 0 .non
   ·rw [if_pos c] at est
    rw [decide_eq_true (show x=es.getD 0 .non from c)]
    refine iteF ⟨ps,_,_,rfl,h3d,by rw [est];exact hps,fun q hq=>?_,S3⟩
    have hne:q.1 ≠ x:=fun e=>(entTo_mem i (hps ▸ List.mem_map.mpr ⟨q,hq,rfl⟩)).2 (e.trans c)
    rw [other _ hne]
    exact hA3 q hq
   rw [if_neg c] at est
   rw [decide_eq_false (show ¬ x=es.getD 0 .non from c)]
   refine iteT ?_
   refine ⟨_,rfl,d,_,rfl,h3d,_,rfl,few (by show 0<=_;omega),fun t0 ht0=>?_⟩
   have T4:=same_upd (o:=.tup []) ht0
   have h44:upd H3 t0 (.tup []) t0=some (.tup []):=upd_same
   have h4d:=T4 _ _ h3d
   have hA4:∀ q ∈ ps,upd H3 t0 (.tup []) q.2=some (.tup ((rowsTo es q.1 i).map natV)):=fun q hq=>T4 _ _ (hA3 q hq)
   have S4:=S3.trans T4
   generalize upd H3 t0 (.tup [])=H4 at T4 h44 h4d hA4 S4
   refine ⟨d,_,vKey x,_,rfl,by rw [vKey_ent hx],h4d,?_⟩
   obtain ⟨b,eb,hb⟩:∃ b,(valV (dnOf ps) (vKey x)).getD (.ref t0)=.ref b/\H4 b=some (.tup ((rowsTo es x i).map natV)):=by
    by_cases m:x ∈ ps.map (fun q=>q.1)
    ·obtain ⟨a,ha,e⟩:=dn_some hP hx m
     exact ⟨a,by rw [e];rfl,hA4 _ ha⟩
    ·refine ⟨t0,by rw [dn_none hP hx m];rfl,?_⟩
     rw [rows_none i (by omega) (hps ▸ m) c]
     exact h44
   rw [eb]
   refine ⟨_,rfl,few (by show 1<=_;omega),fun t1 ht1=>?_⟩
   have T5:=same_upd (o:=.tup [V.int ((i:Nat):Int)]) ht1
   have hrl:=rowsTo_len es x i
   refine ⟨b,t1,_,_,rfl,rfl,T5 _ _ hb,upd_same,(by rw [List.length_map];exact few (by show _+1<=_;omega)),fun r H6 S6 h6=>?_⟩
   have S46:=T5.trans S6
   have h6d:=S46 _ _ h4d
   have S06:=S4.trans S46
   have hA6:∀ q ∈ ps,H6 q.2=some (.tup ((rowsTo es q.1 i).map natV)):=fun q hq=>S46 _ _ (hA4 q hq)
   have er:(rowsTo es x i).map natV++[V.int ((i:Nat):Int)]=(rowsTo es x (i+1)).map natV:=by
    rw [rowsTo_step,if_pos hgi,List.map_append]
    rfl
   rw [er] at h6
   have hsame:∀ kvs,Same H (upd H6 d (DN P w d kvs)):=fun kvs=>same_to S06 hd
   have keep:∀ {a:Addr} {ys:List V} {kvs:List (Option Str × V)},H6 a=some (.tup ys)->upd H6 d (DN P w d kvs) a=some (.tup ys):=fun {a ys kvs} h=>by
    rw [upd_ne (tup_dn h h6d)];exact h
   refine ⟨_,rfl,_,rfl,d,_,vKey x,rfl,(vKey_ent hx).symm,h6d,(by unfold dnOf;rw [List.length_map];exact fewer (by omega)),?_⟩
   by_cases m:x ∈ ps.map (fun q=>q.1)
   ·rw [if_pos (hps ▸ m)] at est
    rw [dn_put hP hx m]
    refine ⟨_,_,_,rfl,upd_same,?_,fun q hq=>?_,hsame _⟩
    ·rw [est,<-hps,List.map_map]
     refine List.map_congr_left fun q _=>?_
     show (if q.1=x then (q.1,r) else q).1=q.1
     split <;> rfl
    ·obtain ⟨q0,hq0,rfl⟩:=List.mem_map.mp hq
     by_cases e:q0.1=x
     ·rw [if_pos e]
      show upd H6 d _ r=some (.tup ((rowsTo es q0.1 (i+1)).map natV))
      rw [e]
      exact keep h6
     ·rw [if_neg e,other _ e]
      exact keep (hA6 q0 hq0)
   ·rw [if_neg (hps ▸ m)] at est
    rw [dn_new hP hx m]
    refine ⟨_,_,_,rfl,upd_same,by rw [est,<-hps,List.map_append];rfl,fun q hq=>?_,hsame _⟩
    rcases List.mem_append.mp hq with hq | hq
    ·rw [other _ (fun e=>m (e ▸ List.mem_map.mpr ⟨q,hq,rfl⟩))]
     exact keep (hA6 q hq)
    ·rw [List.mem_singleton.mp hq]
     exact keep h6
  ·rintro σ H2 ⟨ps,v2,v3,rfl,h2d,hps,hA,S2⟩
   have hP:∀ q ∈ ps,Ent q.1:=fun q hq=>hE q.1 (entTo_mem _ (hps ▸ List.mem_map.mpr ⟨q,hq,rfl⟩)).1
   refine ⟨_,rfl,d,_,rfl,h2d,d,_,rfl,rfl,h2d,fun v hv=>?_⟩
   have T3:=same_upd (o:=ViewO v d) hv
   refine ⟨v,d,_,rfl,upd_same,T3 _ _ h2d,fun H' t as S3 _ ht hPr=>?_⟩
   have S23:Same H2 H':=fun b o e=>S3 _ _ (T3 _ _ e)
   have hlen:as.length=ps.length:=by rw [hPr.len];unfold dnOf;rw [List.length_map]
   refine q H' t (List.zipWith (fun a q=>(a,(q.1,rowsTo es q.1 es.length))) as ps) (S2.trans S23) ?_ (fun y hy=>?_) ?_
   ·rw [ht,List.map_zipWith]
    congr 2
    exact (Vm.zip_fst V.ref as ps hlen).symm
   ·obtain ⟨j,hj⟩:=List.mem_iff_getElem?.mp hy
    rw [List.getElem?_zipWith] at hj
    cases ea:as[j]? with
    | none=>rw [ea] at hj;cases hj
    | some a=>
     cases ep:ps[j]? with
     | none=>rw [ea,ep] at hj;cases hj
     | some qq=>
      rw [ea,ep] at hj
      cases hj
      have hm:=List.mem_of_getElem? ep
      have hmem:qq.1 ∈ entTo es es.length:=hps ▸ List.mem_map.mpr ⟨qq,hm,rfl⟩
      have h3:=hPr.item j a (vKey qq.1) (.ref qq.2) ea (by unfold dnOf;rw [List.getElem?_map,ep];rfl)
      rw [vKey_ent (hP qq hm)] at h3
      exact ⟨rdgs_ok hE h30 hmem,qq.2,h3,S23 _ _ (hA qq hm)⟩
   ·rw [List.map_zipWith]
    unfold rdgsOf
    rw [<-hps,List.map_map]
    exact Vm.zip_snd (fun q:V × Addr=>(q.1,rowsTo es q.1 es.length)) as ps hlen
theorem ent_eqV {x y:V} (h:Ent x) (h2:Ent y):eqV x y=decide (x=y):=by
 rcases h with rfl | ⟨z,_,rfl⟩ <;> rcases h2 with rfl | ⟨u,_,rfl⟩
 ·rfl
 ·rfl
 ·rfl
 ·show decide (z=u)=decide (V.str z=V.str u)
  by_cases e:z=u
  ·subst e;rw [decide_eq_true rfl,decide_eq_true rfl]
  ·rw [decide_eq_false e,decide_eq_false (fun q=>e (V.str.inj q))]
theorem eqs_rdgs {H:Hp} {t u:Addr} {xs ys:List (Addr × Rdg)} (ht:H t=some (.tup (xs.map fun y=>V.ref y.1))) (hu:H u=some (.tup (ys.map fun y=>V.ref y.1))) (hX:∀ y ∈ xs,RdgAt H y.1 y.2) (hY:∀ y ∈ ys,RdgAt H y.1 y.2) (e:(xs.map fun y=>y.2)=ys.map fun y=>y.2):EqS K H 2 (.ref t) (.ref u) true:=by
 have el:xs.length=ys.length:=by have:=congrArg List.length e;rw [List.length_map,List.length_map] at this;exact this
 refine ⟨t,u,_,_,fun _=>true,rfl,rfl,.inr ⟨SqT.of ht,SqT.of hu⟩,fun i x y hx hy=>?_,?_⟩
 ·rw [List.getElem?_map] at hx hy
  obtain ⟨p,hp,rfl⟩:=Option.map_eq_some_iff.mp hx
  obtain ⟨q,hq,rfl⟩:=Option.map_eq_some_iff.mp hy
  have e4:=congrArg (fun l=>l[i]?) e
  rw [List.getElem?_map,List.getElem?_map,hp,hq] at e4
  have e5:p.2=q.2:=Option.some.inj e4
  obtain ⟨ho,r,h1,h2⟩:=hX p (List.mem_of_getElem? hp)
  obtain ⟨_,r',h3,h4⟩:=hY q (List.mem_of_getElem? hq)
  rw [<-e5] at h3 h4
  refine .inr ⟨p.1,q.1,_,_,fun _=>true,rfl,rfl,.inr ⟨SqT.of h1,SqT.of h3⟩,fun j x y hx hy=>?_,by rfl⟩
  match j,hx,hy with
  | 0,hx,hy=>
   cases hx;cases hy
   have:=EqQ.flat (K:=K) (H:=H) (ent_flat ho.1) (ent_flat ho.1) 1
   rw [ent_eqV ho.1 ho.1,decide_eq_true rfl] at this
   exact this
  | 1,hx,hy=>
   cases hx;cases hy
   have hfl:(p.2.2.map natV).all flatV=true:=by rw [List.all_eq_true];intro x hx;obtain ⟨k,_,rfl⟩:=List.mem_map.mp hx;rfl
   have:=EqS.flats (K:=K) (H:=H) (.inr ⟨SqT.of h2,SqT.of h4⟩) hfl hfl
   rw [eqL_refl hfl] at this
   exact .inr this
  | n+2,hx,hy=>simp at hx
 ·rw [List.length_map,List.length_map,el,decide_eq_true rfl,Bool.true_and]
  exact (List.all_eq_true.mpr fun _ _=>rfl).symm
def spCB (K:PySem.W.Frag):Sp:=fun vs H Q _=>∃ (es:List V) (t:Addr) (xs:List (Addr × Rdg)),vs=[es.getD 0 .non,.int ((es.length:Nat):Int),.ref t]/\(∀ e ∈ es,Ent e)/\1<=es.length/\es.length<=30/\H t=some (.tup (xs.map fun y=>V.ref y.1))/\(∀ y ∈ xs,RdgAt H y.1 y.2)/\(xs.map fun y=>y.2)=rdgsOf es/\xs ≠ [] ∧
 ∀ (H':Hp) (r:Addr),Same H H'->H' r=some (.tup es)->Q (.ref r) H'
theorem scCB:FnScope ["entry","many","readings","column","reading","rows","row"] ["entry","many","readings"] (defScope sCB):=⟨rfl,rfl,rfl,by decide +kernel,rfl,by decide +kernel,by decide +kernel⟩
theorem ok_cb {f gR:Addr} {fd dR:FuncData} (F:Fun K "column_back" "column_back" sCB f fd) (DR:Dfn K mg "readings_of" sRdf gR dR ["column"]) (mlen:mg "len" = none) (mtup:mg "tuple" = none) (menum:mg "enumerate" = none):FnOk P w K mg base CX0 2 f fd ["entry","many","readings"] (spCB K):=by
 have GR:FnOk P w K mg base CX0 1 gR dR ["column"] spReadingsL:=ok_readingsL DR.fn mtup menum
 refine F.ok scCB (fun vs H Q E h=>?_) (fun cdv A outer s H vs Q E hr h=>?_)
 ·obtain ⟨es,t,xs,rfl,_⟩:=h
  rfl
 ·obtain ⟨es,t,xs,rfl,hE,h1,h30,ht,hX,hxe,hne,q⟩:=h
  refine ⟨_,pss_cons (ps_set (i:=3) scCB.nd rfl (Or.inl rfl) (pe_op op_mulL (pe_lst (pa_cons (pv 0) pa_nil)) (pv 1)))
   (pss_cons (ps_for PassesOwn.never rfl (pi_tup (pv 2)) (pg_tup (n:=2) rfl (pgs_cons (pg_name (i:=4) scCB.nd rfl (Or.inl rfl)) (pgs_cons (pg_name (i:=5) scCB.nd rfl (Or.inl rfl)) pgs_nil)))
   (pss_one (ps_for PassesOwn.never rfl (pi_tup (pv 5)) (pg_name (i:=6) scCB.nd rfl (Or.inl rfl))
   (pss_cons (ps_if (pt_not (pt_chain op_lt op_lt pe_int (pv 6) (pv 1))) pss_never pss_nil)
   (pss_one (ps_asg (pv 4) (pg_sub (pv 3) (pv 6) set_list)))))))
   (pss_cons (ps_if (PW.pt (pw_or (pt_cmpR op_eq (pe_callB call_len_seq (by rfl) mlen PySem.boot_len (pa_cons (pv 2) pa_nil)) pe_int (nomark _)) (pw_or1 (pt_cmpR (op_neS hr.units) (pe_call GR hr (by rfl) DR.at_ DR.fn.kp DR.bn .nil pass0 (pa_cons (pv 3) pa_nil)) (pv 2) (nomark _))))) pss_never pss_nil)
   (pss_one (ps_ret (pe_callTy call_tuple_of (by rfl) mtup boot_tuple (pa_cons (pv 3) pa_nil)))))),?_⟩
  refine ⟨_,rfl,few (by show 1<=_;omega),fun l0 hl0=>?_⟩
  have T0:=same_upd (o:=.lst [es.getD 0 .non]) hl0
  refine ⟨_,rfl,l0,_,es.length,rfl,rfl,upd_same,by omega,fun lc hlc=>?_⟩
  have T1:=same_upd (o:=.lst (List.replicate es.length (es.getD 0 .non))) hlc
  have S1:=T0.trans T1
  have h1c:upd (upd H l0 (.lst [es.getD 0 .non])) lc (.lst (List.replicate es.length (es.getD 0 .non))) lc=some (.lst (colF es (es.getD 0 .non) (fun _=>false) es.length)):=by rw [upd_same,colF_none]
  have hcH:=T0.free hlc
  generalize upd (upd H l0 (.lst [es.getD 0 .non])) lc (.lst (List.replicate es.length (es.getD 0 .non)))=H1 at S1 h1c
  have hus:(xs.map fun y=>y.2)=(entTo es es.length).map fun x=>(x,rowsTo es x es.length):=hxe
  have hul:xs.length=(entTo es es.length).length:=by have:=congrArg List.length hus;rw [List.length_map,List.length_map] at this;exact this
  refine ⟨_,rfl,t,rfl,⟨_,SqT.of (S1 _ _ ht)⟩,for_tup (K:=K) (a:=t) (xs:=xs.map fun y=>V.ref y.1) (fun j σ H2=>∃ (S:Nat->Bool) (v4 v5 v6:Option V),σ=[some (es.getD 0 .non),some (.int ((es.length:Nat):Int)),some (.ref t),some (.ref lc),v4,v5,v6]/\H2 lc=some (.lst (colF es (es.getD 0 .non) S es.length))/\(∀ r,r < es.length->(S r=true ↔ es.getD r .non ∈ (entTo es es.length).take j))/\Same H H2)
   ⟨fun _=>false,none,none,none,rfl,h1c,(fun r _=>by rw [List.take_zero];exact ⟨fun z=>absurd z Bool.false_ne_true,fun z=>absurd z List.not_mem_nil⟩),S1⟩ (fun j σ H2 _ ⟨_,_,_,_,_,_,_,S⟩=>SqT.of (S _ _ ht)) ?_ ?_⟩
  ·rintro j y σ H2 hj ⟨S,v4,v5,v6,rfl,h2c,hS,S2⟩
   rw [List.getElem?_map] at hj
   obtain ⟨p,hp,rfl⟩:=Option.map_eq_some_iff.mp hj
   have hjl:j < xs.length:=(List.getElem?_eq_some_iff.mp hp).1
   obtain ⟨x,hxj,ep⟩:∃ x,(entTo es es.length)[j]?=some x/\p.2=(x,rowsTo es x es.length):=by
    have hjl':j < (entTo es es.length).length:=by rw [<-hul];exact hjl
    refine ⟨_,List.getElem?_eq_getElem hjl',?_⟩
    have e4:=congrArg (fun l=>l[j]?) hus
    rw [List.getElem?_map,List.getElem?_map,hp,List.getElem?_eq_getElem hjl'] at e4
    exact Option.some.inj e4
   have hxm:=List.mem_of_getElem? hxj
   have hx0:x ≠ es.getD 0 .non:=(entTo_mem _ hxm).2
   obtain ⟨ho,r0,hp1,hp2⟩:=hX p (List.mem_of_getElem? hp)
   rw [ep] at hp1 hp2
   refine ⟨p.1,_,rfl,SqT.of (S2 _ _ hp1),rfl,_,_,rfl,_,_,rfl,rfl,?_⟩
   have hrl:=rowsTo_len es x es.length
   refine ⟨_,rfl,r0,rfl,⟨_,SqT.of (S2 _ _ hp2)⟩,for_tup (K:=K) (a:=r0) (xs:=(rowsTo es x es.length).map natV) (fun k σ H3=>∃ (S':Nat->Bool) (v6:Option V),σ=[some (es.getD 0 .non),some (.int ((es.length:Nat):Int)),some (.ref t),some (.ref lc),some x,some (.ref r0),v6]/\H3 lc=some (.lst (colF es (es.getD 0 .non) S' es.length))/\(∀ r,r < es.length->(S' r=true ↔ es.getD r .non ∈ (entTo es es.length).take j\/r ∈ (rowsTo es x es.length).take k))/\Same H H3)
    ⟨S,v6,rfl,h2c,(fun r hr=>by rw [hS r hr,List.take_zero];exact ⟨fun z=>.inl z,fun z=>z.elim id fun z=>absurd z List.not_mem_nil⟩),S2⟩ (fun k σ H3 _ ⟨_,_,_,_,_,S3⟩=>SqT.of (S3 _ _ hp2)) ?_ ?_⟩
   ·rintro k y σ H3 hk ⟨S',v6,rfl,h3c,hS',S3⟩
    rw [List.getElem?_map] at hk
    obtain ⟨r,hrk,rfl⟩:=Option.map_eq_some_iff.mp hk
    have hrm:=List.mem_of_getElem? hrk
    obtain ⟨hrm1,hrm2⟩:=rowsTo_mem.mp hrm
    have hr0:0 < r:=by
     rcases Nat.eq_zero_or_pos r with z | z
     ·rw [z] at hrm2
      exact absurd hrm2.symm hx0
     ·exact z
    refine ⟨_,rfl,_,_,rfl,rfl,_,rfl,?_⟩
    rw [decide_eq_true (show (0:Int) < ((r:Nat):Int) by omega)]
    refine iteT ⟨_,rfl,_,_,rfl,rfl,_,rfl,?_⟩
    rw [decide_eq_true (show ((r:Nat):Int) < ((es.length:Nat):Int) by omega)]
    refine iteF ?_
    refine ⟨_,rfl,_,rfl,_,rfl,lc,_,_,r,rfl,rfl,h3c,(by rw [colF_len];exact ixN_nat hrm1),?_⟩
    rw [colF_set hrm1 hrm2]
    refine ⟨_,_,rfl,upd_same,fun r' hr'=>?_,same_to S3 hcH⟩
    rw [List.take_add_one,hrk,List.mem_append,Bool.or_eq_true,hS' r' hr',beq_iff_eq]
    show (_\/_)\/r'=r ↔ _\/_\/r' ∈ [r]
    rw [List.mem_singleton,or_assoc]
   ·rintro σ H3 ⟨S',v6,rfl,h3c,hS',S3⟩
    refine ⟨S',_,_,_,rfl,h3c,fun r hr=>?_,S3⟩
    rw [hS' r hr,List.length_map,List.take_length,rowsTo_mem,List.take_add_one,hxj,List.mem_append]
    show _\/_ ↔ _\/es.getD r .non ∈ [x]
    rw [List.mem_singleton]
    exact ⟨fun z=>z.elim .inl fun z=>.inr z.2,fun z=>z.elim .inl fun z=>.inr ⟨hr,z⟩⟩
  ·rintro σ H2 ⟨S,v4,v5,v6,rfl,h2c,hS,S2⟩
   rw [List.length_map,hul,List.take_length] at hS
   rw [colF_done hS] at h2c
   have lx:(xs.map fun y=>V.ref y.1).length=xs.length:=List.length_map ..
   have hxp:0 < xs.length:=List.length_pos_iff.mpr hne
   refine ⟨_,rfl,t,_,rfl,.inr (SqT.of (S2 _ _ ht)),rfl,_,rfl,?_⟩
   rw [lx,decide_eq_false (show ¬ (V.int ((xs.length:Nat):Int)=V.int 0) from fun z=>by have:=V.int.inj z;omega)]
   refine iteF ?_
   refine ⟨_,rfl,lc,es,rfl,h2c,hE,h1,h30,fun H3 r3 ys S3 h3 hY hye=>?_⟩
   refine ⟨_,rfl,2,true,by decide,eqs_rdgs h3 (S3 _ _ (S2 _ _ ht)) hY (fun y hy=>((hX y hy).mono S2).mono S3) (hye.trans hxe.symm),_,rfl,iteF ?_⟩
   refine ⟨_,rfl,lc,_,rfl,.inl ⟨SqL.of (S3 _ _ h2c),fun r4 hr4=>?_⟩⟩
   have T4:=same_upd (o:=.tup es) hr4
   exact q _ r4 ((S2.trans S3).trans T4) upd_same
def spOB (K:PySem.W.Frag):Sp:=fun vs H Q _=>∃ (p t:Addr) (cs:List (Addr × List V)) (m:Nat) (ns:List (Addr × Note)),vs=[.ref p,.int ((m:Nat):Int),.ref t]/\H p=some (.tup (cs.map fun x=>x.2.getD 0 .non))/\(∀ x ∈ cs,x.2.length=m/\∀ e ∈ x.2,Ent e)/\1<=m/\m<=30/\cs.length<=1200/\H t=some (.tup (ns.map fun y=>V.ref y.1))/\(∀ y ∈ ns,NoteAt H y.1 y.2)/\(ns.map fun y=>toldN y.2)=notesTo (pureC cs) cs.length ∧
 ∀ (H':Hp) (r:Addr) (as:List Addr),Same H H'->H' r=some (.tup (as.map V.ref))->as.length=cs.length->(∀ (i:Nat) (a:Addr) (c:Addr × List V),as[i]?=some a->cs[i]?=some c->H' a=some (.tup c.2))->Q (.ref r) H'
theorem scOB:FnScope ["entries","many","notes","columns","ahead","number","readings"] ["entries","many","notes"] (defScope sOB):=⟨rfl,rfl,rfl,by decide +kernel,rfl,by decide +kernel,by decide +kernel⟩
theorem nd_em:(["entry","many"]:List Str).Nodup:=by decide +kernel
def BackAt (H:Hp) (as:List Addr) (cs:List (Addr × List V)) (m:Nat) (done:List (Nat × List Rdg)):Prop:=∀ (i:Nat) (a:Addr) (c:Addr × List V),as[i]?=some a->cs[i]?=some c->H a=some (.tup c.2)\/(H a=some (.tup (List.replicate m (c.2.getD 0 .non)))/\∀ q ∈ done,q.1 ≠ i)
theorem BackAt.mono {H H':Hp} {as:List Addr} {cs:List (Addr × List V)} {m:Nat} {done:List (Nat × List Rdg)} (S:Same H H') (h:BackAt H as cs m done):BackAt H' as cs m done:=fun i a c e1 e2=>(h i a c e1 e2).elim (fun z=>.inl (S _ _ z)) fun z=>.inr ⟨S _ _ z.1,z.2⟩
theorem ok_ob {f gR gC:Addr} {fd dR dC:FuncData} (F:Fun K "collation_back" "collation_back" sOB f fd) (DR:Dfn K mg "readings_of" sRdf gR dR ["column"]) (DC:Dfn K mg "column_back" sCB gC dC ["entry","many","readings"]) (mlen:mg "len" = none) (mtup:mg "tuple" = none) (menum:mg "enumerate" = none):FnOk P w K mg base CX0 3 f fd ["entries","many","notes"] (spOB K):=by
 have GC:FnOk P w K mg base CX0 2 gC dC ["entry","many","readings"] (spCB K):=ok_cb DC.fn DR mlen mtup menum
 refine F.ok scOB (fun vs H Q E h=>?_) (fun cdv A outer s H vs Q E hr h=>?_)
 ·obtain ⟨p,t,cs,m,ns,rfl,_⟩:=h
  rfl
 ·obtain ⟨p,t,cs,m,ns,rfl,hp,hC,m1,m30,hcl,ht,hN,hto,q⟩:=h
  refine ⟨_,pss_cons (ps_setC (i:=3) (Nc:=["entry","many"]) (mp:=[none,some 1]) rfl scOB.nd rfl rfl (CompOk.of (by rfl)) (pi_tup (pv 0)) (fun cl C s H fp=>⟨pg_name (i:=0) nd_em rfl (Or.inl rfl),pts_nil,(pe_op op_mulT (pe_tup (pa_cons (pv 0) pa_nil)) (pv 1))⟩))
   (pss_cons (ps_set (i:=4) scOB.nd rfl (Or.inl rfl) (pe_un un_neg pe_int))
   (pss_cons (ps_for PassesOwn.never rfl (pi_tup (pv 2)) (pg_tup (n:=2) rfl (pgs_cons (pg_name (i:=5) scOB.nd rfl (Or.inl rfl)) (pgs_cons (pg_name (i:=6) scOB.nd rfl (Or.inl rfl)) pgs_nil)))
   (pss_cons (ps_if (pt_not (pt_chain op_lt op_lt (pv 4) (pv 5) (pe_callB call_len_seq (by rfl) mlen PySem.boot_len (pa_cons (pv 0) pa_nil)))) pss_never pss_nil)
   (pss_cons (ps_asg (pe_call GC hr (by rfl) DC.at_ DC.fn.kp DC.bn .nil pass0 (pa_cons (pe_ix ix_tup (pv 0) (pv 5) (fun _ _=>rfl)) (pa_cons (pv 1) (pa_cons (pv 6) pa_nil)))) (pg_sub (pv 3) (pv 5) set_list))
   (pss_one (ps_set (i:=4) scOB.nd rfl (Or.inl rfl) (pv 5))))))
   (pss_one (ps_ret (pe_callTy call_tuple_of (by rfl) mtup boot_tuple (pa_cons (pv 3) pa_nil)))))),?_⟩
  refine ⟨_,rfl,p,rfl,⟨_,SqT.of hp⟩,comp_grow (as:=cs) (v:=fun x=>x.2.getD 0 .non) (fun i acc H2=>∃ as:List Addr,acc=as.map V.ref/\as.length=i/\Same H H2/\∀ (i:Nat) (a:Addr) (c:Addr × List V),as[i]?=some a->cs[i]?=some c->H2 a=some (.tup (List.replicate m (c.2.getD 0 .non))))
   (fun i acc H2 _ ⟨_,_,_,S,_⟩=>src_tup (SqT.of (S _ _ hp))) (few (by omega)) ⟨[],rfl,rfl,Same.refl _,(fun i a c e=>by simp at e)⟩ (fun i acc H2 ⟨as,e,hl,_⟩=>by rw [e,List.length_map,hl]) ?_ ?_⟩
  ·rintro i c acc H2 hc ⟨as,rfl,hal,S2,hA⟩ k hk
   refine ⟨_,rfl,few (by show 1<=_;omega),fun t3 ht3=>?_⟩
   have T3:=same_upd (o:=.tup [c.2.getD 0 .non]) ht3
   refine ⟨_,rfl,t3,_,m,rfl,rfl,upd_same,by omega,fun r4 H4 S4 h4=>?_⟩
   have S24:=T3.trans S4
   refine hk _ _ ⟨as++[r4],by rw [List.map_append];rfl,by rw [List.length_append,hal];rfl,S2.trans S24,fun j a d e1 e2=>?_⟩
   by_cases hj:j < as.length
   ·rw [List.getElem?_append_left hj] at e1
    exact S24 _ _ (hA j a d e1 e2)
   ·rw [List.getElem?_append_right (by omega)] at e1
    have hj0:j=i:=by
     have:=(List.getElem?_eq_some_iff.mp e1).1
     rw [List.length_singleton] at this
     omega
    subst hj0
    rw [hal,Nat.sub_self] at e1
    cases e1
    rw [hc] at e2
    cases e2
    exact h4
  rintro acc H2 ⟨as,rfl,hal,S2,hA⟩ lc hlc
  have T3:=same_upd (o:=.lst (as.map V.ref)) hlc
  have h3c:upd H2 lc (.lst (as.map V.ref)) lc=some (.lst (as.map V.ref)):=upd_same
  have S3:=S2.trans T3
  have hcH:=S2.free hlc
  have hB3:BackAt (upd H2 lc (.lst (as.map V.ref))) as cs m []:=fun i a c e1 e2=>.inr ⟨T3 _ _ (hA i a c e1 e2),fun q z=>absurd z List.not_mem_nil⟩
  generalize upd H2 lc (.lst (as.map V.ref))=H3 at T3 h3c S3 hB3
  have hsort:=notes_sorted (pureC cs) cs.length
  have hmem:∀ q ∈ notesTo (pureC cs) cs.length,q.1 < cs.length/\q.2=rdgsOf ((pureC cs).getD q.1 [])/\q.2 ≠ []:=fun q hq=>notes_mem hq
  have hall:∀ i,i < cs.length->rdgsOf ((pureC cs).getD i []) ≠ []->(i,rdgsOf ((pureC cs).getD i [])) ∈ notesTo (pureC cs) cs.length:=fun i hi h=>notes_all hi h
  have hnl:ns.length=(notesTo (pureC cs) cs.length).length:=by have:=congrArg List.length hto;rw [List.length_map] at this;exact this
  generalize notesTo (pureC cs) cs.length=told at hto hsort hmem hall hnl
  have lcs:(cs.map fun x=>x.2.getD 0 .non).length=cs.length:=List.length_map ..
  refine ⟨_,rfl,?_⟩
  refine ⟨_,rfl,t,rfl,⟨_,SqT.of (S3 _ _ ht)⟩,for_tup (K:=K) (a:=t) (xs:=ns.map fun y=>V.ref y.1) (fun j σ H4=>∃ (as:List Addr) (ahead:Int) (v5 v6:Option V),σ=[some (.ref p),some (.int ((m:Nat):Int)),some (.ref t),some (.ref lc),some (.int ahead),v5,v6]/\as.length=cs.length/\H4 lc=some (.lst (as.map V.ref))/\BackAt H4 as cs m (told.take j)/\(∀ q ∈ told.drop j,ahead < ((q.1:Nat):Int))/\Same H H4)
   ⟨as,-1,none,none,rfl,hal,h3c,by rw [List.take_zero];exact hB3,(fun q _=>by omega),S3⟩ (fun j σ H4 _ ⟨_,_,_,_,_,_,_,_,_,S⟩=>SqT.of (S _ _ ht)) ?_ ?_⟩
  ·rintro j y σ H4 hj ⟨as,ahead,v5,v6,rfl,hal,h4c,hB,hah,S4⟩
   rw [List.getElem?_map] at hj
   obtain ⟨y,hy,rfl⟩:=Option.map_eq_some_iff.mp hj
   have hjl:j < told.length:=by rw [<-hnl];exact (List.getElem?_eq_some_iff.mp hy).1
   have etold:told[j]?=some (toldN y.2):=by
    have e4:=congrArg (fun l=>l[j]?) hto
    rw [List.getElem?_map,hy] at e4
    exact e4.symm
   obtain ⟨m1',m2',m3'⟩:=hmem _ (List.mem_of_getElem? etold)
   have m1':y.2.1 < cs.length:=m1'
   have edrop:told.drop j=toldN y.2 :: told.drop (j+1):=by
    rw [List.drop_eq_getElem_cons hjl]
    rw [List.getElem?_eq_getElem hjl] at etold
    rw [Option.some.inj etold]
   have hlt:ahead < ((y.2.1:Nat):Int):=hah (toldN y.2) (by rw [edrop];exact List.mem_cons_self)
   have hnext:∀ q ∈ told.drop (j+1),((y.2.1:Nat):Int) < ((q.1:Nat):Int):=fun q hq=>by
    have h1:(told.drop j).Pairwise fun p q=>p.1 < q.1:=hsort.sublist (List.drop_sublist _ _)
    rw [edrop,List.pairwise_cons] at h1
    have:=h1.1 q hq
    have:y.2.1 < q.1:=this
    omega
   obtain ⟨n1,n2,n3,qa,n4,n5⟩:=hN y (List.mem_of_getElem? hy)
   refine ⟨y.1,_,rfl,SqT.of (S4 _ _ n4),rfl,_,_,rfl,_,_,rfl,rfl,?_⟩
   refine ⟨_,rfl,_,rfl,_,_,rfl,rfl,_,rfl,?_⟩
   rw [decide_eq_true (show ahead < ((y.2.1:Nat):Int) from hlt)]
   refine iteT ⟨_,rfl,p,_,rfl,.inr (SqT.of (S4 _ _ hp)),_,_,rfl,rfl,_,rfl,?_⟩
   rw [lcs,decide_eq_true (show ((y.2.1:Nat):Int) < ((cs.length:Nat):Int) by omega)]
   refine iteF ?_
   have ecs:=List.getElem?_eq_getElem m1'
   obtain ⟨c2,c3⟩:=hC _ (List.getElem_mem m1')
   have epure:(pureC cs).getD y.2.1 []=cs[y.2.1].2:=pureC_at m1'
   have m2':(y.2.2.map fun z=>z.2)=rdgsOf cs[y.2.1].2:=by rw [<-epure];exact m2'
   have m3':y.2.2 ≠ []:=fun z=>m3' (by show (y.2.2.map fun z=>z.2)=[];rw [z];rfl)
   have aent:atI (cs.map fun x=>x.2.getD 0 .non) ((y.2.1:Nat):Int)=some (cs[y.2.1].2.getD 0 .non):=atI_nat (by rw [List.getElem?_map,ecs];rfl)
   generalize cs[y.2.1]=c at ecs c2 c3 epure m2' aent
   refine ⟨_,rfl,_,rfl,p,_,_,_,rfl,rfl,SqT.of (S4 _ _ hp),aent,_,rfl,_,rfl,c.2,qa,y.2.2,(by rw [c2];rfl),c3,by omega,by omega,S4 _ _ n5,(fun z hz=>(n3 z hz).mono S4),m2',m3',fun H5 r5 S5 h5=>?_⟩
   have h5c:=S5 _ _ h4c
   have hB5:=hB.mono S5
   refine ⟨_,rfl,_,rfl,lc,_,_,y.2.1,rfl,rfl,h5c,(by rw [List.length_map,hal];exact ixN_nat m1'),?_⟩
   have keep:∀ {a:Addr} {ys zs:List V},H5 a=some (.tup ys)->upd H5 lc (.lst zs) a=some (.tup ys):=fun {a ys zs} h=>by
    rw [upd_ne (ne_of h h5c (by intro z;cases z))];exact h
   refine ⟨_,rfl,as.set y.2.1 r5,_,_,_,rfl,by rw [List.length_set];exact hal,by rw [upd_same,List.map_set],fun i a d e1 e2=>?_,hnext,same_to (S4.trans S5) hcH⟩
   rw [List.getElem?_set] at e1
   by_cases hi:y.2.1=i
   ·subst hi
    rw [if_pos rfl,if_pos (by rw [hal];exact m1')] at e1
    cases e1
    rw [ecs] at e2
    cases e2
    exact .inl (keep h5)
   ·rw [if_neg hi] at e1
    rcases hB5 i a d e1 e2 with h | ⟨h,h'⟩
    ·exact .inl (keep h)
    ·refine .inr ⟨keep h,fun q hq=>?_⟩
     rw [List.take_add_one,etold,List.mem_append] at hq
     rcases hq with hq | hq
     ·exact h' q hq
     ·rw [List.mem_singleton.mp hq]
      exact hi
  ·rintro σ H4 ⟨as,ahead,v5,v6,rfl,hal,h4c,hB,hah,S4⟩
   rw [List.length_map,hnl,List.take_length] at hB
   refine ⟨_,rfl,lc,_,rfl,.inl ⟨SqL.of h4c,fun r5 hr5=>?_⟩⟩
   have T5:=same_upd (o:=.tup (as.map V.ref)) hr5
   refine q _ r5 as (S4.trans T5) upd_same hal fun i a c e1 e2=>T5 _ _ ?_
   have hi:i < cs.length:=(List.getElem?_eq_some_iff.mp e2).1
   have ec:cs[i]=c:=(List.getElem?_eq_some_iff.mp e2).2
   have epure:(pureC cs).getD i []=c.2:=by rw [pureC_at hi,ec]
   rcases hB i a c e1 e2 with h | ⟨h,h'⟩
   ·exact h
   ·by_cases z:rdgsOf c.2=[]
    ·have e:=const_of z
     rw [(hC c (List.mem_of_getElem? e2)).1] at e
     rw [h]
     exact congrArg (fun x=>some (HO.tup x)) e.symm
    ·have:=hall i hi (by rw [epure];exact z)
     exact absurd rfl (h' _ this)
theorem take_snoc {α:Type} {xs:List α} {i:Nat} {x:α} (h:xs[i]?=some x):xs.take (i+1)=xs.take i++[x]:=by
 have hi:=(List.getElem?_eq_some_iff.mp h).1
 rw [List.take_succ_eq_append_getElem hi]
 have:xs[i]=x:=by
  have:=List.getElem?_eq_getElem hi
  rw [h] at this
  exact (Option.some.inj this).symm
 rw [this]
theorem num1200:∀ n,n < 1200->pnum (numS ((n:Nat):Int)) 1000000000000000000000000000000=some ((n:Nat):Int):=by decide +kernel
theorem cut_tail (x:V) (r:List V):cutV (x :: r) (some 1) none=r:=by
 show (List.drop (HT.sIx (r.length+1) 0 (some 1)) (x :: r)).take (HT.sIx (r.length+1) (r.length+1) none - HT.sIx (r.length+1) 0 (some 1))=r
 have e1:HT.sIx (r.length+1) 0 (some 1)=1:=by
  unfold HT.sIx
  simp
 have e2:HT.sIx (r.length+1) (r.length+1) none=r.length+1:=rfl
 rw [e1,e2]
 show List.take (r.length+1 - 1) r=r
 exact List.take_of_length_le (by omega)
def longer (k:Nat) (es:List V):List V:=es++List.replicate k (es.getD 0 .non)
theorem longer_zero {es:List V} (h:1<=es.length) (k:Nat):(longer k es).getD 0 .non=es.getD 0 .non:=by
 unfold longer
 rw [List.getD_eq_getElem?_getD,List.getElem?_append_left (by omega),<-List.getD_eq_getElem?_getD]
theorem longer_ents {es:List V} (h:1<=es.length) (k:Nat):entTo (longer k es) (longer k es).length=entTo es es.length:=by
 unfold entTo
 rw [List.take_length,List.take_length,longer_zero h]
 have e:longer k es=es++List.replicate k (es.getD 0 .non):=rfl
 rw [e,List.foldl_append]
 generalize List.foldl (entStep (es.getD 0 .non)) [] es=us
 induction k with
 | zero=>rfl
 | succ k ih=>
  rw [List.replicate_succ,List.foldl_cons]
  have e2:entStep (es.getD 0 .non) us (es.getD 0 .non)=us:=by unfold entStep;rw [if_pos rfl]
  rw [e2]
  exact ih rfl
theorem longer_rows {es:List V} {x:V} (k:Nat) (hx:x ≠ es.getD 0 .non):rowsTo (longer k es) x (longer k es).length=rowsTo es x es.length:=by
 have el:(longer k es).length=es.length+k:=by unfold longer;rw [List.length_append,List.length_replicate]
 have go:∀ j,j<=k->rowsTo (longer k es) x (es.length+j)=rowsTo es x es.length:=by
  intro j
  induction j with
  | zero=>
   intro _
   unfold rowsTo
   refine List.filter_congr fun r hr=>?_
   have hr:=List.mem_range.mp hr
   have e:(longer k es).getD r .non=es.getD r .non:=by
    unfold longer
    rw [List.getD_eq_getElem?_getD,List.getElem?_append_left (by omega),<-List.getD_eq_getElem?_getD]
   rw [e]
  | succ j ih=>
   intro hj
   have e:(longer k es).getD (es.length+j) .non=es.getD 0 .non:=by
    unfold longer
    rw [List.getD_eq_getElem?_getD,List.getElem?_append_right (by omega),List.getElem?_replicate,if_pos (by omega)]
    rfl
   rw [show es.length+(j+1)=es.length+j+1 from rfl,rowsTo_step,e,if_neg (fun z=>hx z.symm),List.append_nil]
   exact ih (by omega)
 rw [el]
 exact go k (Nat.le_refl _)
theorem longer_rdgs {es:List V} (h:1<=es.length) (k:Nat):rdgsOf (longer k es)=rdgsOf es:=by
 unfold rdgsOf
 rw [longer_ents h]
 refine List.map_congr_left fun x hx=>?_
 rw [longer_rows k (entTo_mem _ hx).2]
def longC (m:Nat) (cs:List (Addr × List V)):List (Addr × List V):=cs.map fun x=>(x.1,longer (30 - m) x.2)
theorem longC_notes {cs:List (Addr × List V)} {m:Nat} (h:∀ x ∈ cs,1<=x.2.length) (n:Nat) (hn:n<=cs.length):notesTo (pureC (longC m cs)) n=notesTo (pureC cs) n:=by
 unfold notesTo
 congr 1
 refine List.map_congr_left fun i hi=>?_
 have hi:=List.mem_range.mp hi
 have h1:i < cs.length:=by omega
 have h2:i < (longC m cs).length:=by unfold longC;rw [List.length_map];exact h1
 rw [pureC_at h1,pureC_at h2]
 have e:(longC m cs)[i].2=longer (30 - m) cs[i].2:=by
  have e1:(longC m cs)[i]?=some (cs[i].1,longer (30 - m) cs[i].2):=by
   unfold longC
   rw [List.getElem?_map,List.getElem?_eq_getElem h1]
   rfl
  rw [List.getElem?_eq_getElem h2] at e1
  rw [Option.some.inj e1]
 rw [e,longer_rdgs (h _ (List.getElem_mem h1))]
def NoteOk (x:Note):Prop:=x.1 < 1200/\x.2 ≠ []/\x.2.length<=30/\∀ y ∈ x.2,RdgOk y.2/\y.2.2 ≠ []
theorem rows_some {es:List V} {x:V}:∀ i,i<=es.length->x ∈ entTo es i->rowsTo es x i ≠ []
 | 0,_,h=>by cases h
 | i+1,hi,h=>by
  have e:=List.getElem?_eq_getElem (l:=es) (i:=i) (by omega)
  rw [entTo_step e] at h
  rw [rowsTo_step]
  rcases entStep_mem h with h | ⟨rfl,_⟩
  ·intro z
   exact rows_some i (by omega) h (List.append_eq_nil_iff.mp z).1
  ·have eg:es.getD i .non=es[i]:=by rw [List.getD_eq_getElem?_getD,e];rfl
   rw [if_pos eg]
   intro z
   exact absurd (List.append_eq_nil_iff.mp z).2 (fun z=>nomatch z)
theorem notes_ok {H:Hp} {cs:List (Addr × List V)} {ns:List (Addr × Note)} (hN:∀ y ∈ ns,NoteAt H y.1 y.2) (e:(ns.map fun y=>toldN y.2)=notesTo (pureC cs) cs.length) (hcl:cs.length<=1200):∀ y ∈ ns,NoteOk y.2:=fun y hy=>by
 obtain ⟨n1,n2,n3,_⟩:=hN y hy
 have hm:toldN y.2 ∈ notesTo (pureC cs) cs.length:=by rw [<-e];exact List.mem_map.mpr ⟨y,hy,rfl⟩
 obtain ⟨m1,m2,m3⟩:=notes_mem hm
 have m1:y.2.1 < cs.length:=m1
 have m2:(y.2.2.map fun z=>z.2)=rdgsOf ((pureC cs).getD y.2.1 []):=m2
 refine ⟨by omega,fun z=>m3 (by show (y.2.2.map fun z=>z.2)=[];rw [z];rfl),n2,fun z hz=>⟨(n3 z hz).1,?_⟩⟩
 have hz2:z.2 ∈ rdgsOf ((pureC cs).getD y.2.1 []):=by rw [<-m2];exact List.mem_map.mpr ⟨z,hz,rfl⟩
 unfold rdgsOf at hz2
 obtain ⟨x,hx,ex⟩:=List.mem_map.mp hz2
 rw [<-ex]
 exact rows_some _ (Nat.le_refl _) hx
theorem dash_not {z:Str} (h:Good z):z ≠ Str.ofString "-" := fun e=>by
 have h1:=h.al 45 (by rw [e];decide +kernel)
 unfold Al at h1
 omega
def spER:Sp:=fun vs H Q _=>∃ v,vs=[.str (entS v)]/\Ent v/\Q v H
theorem scER:FnScope ["text"] ["text"] (defScope sER):=⟨rfl,rfl,rfl,by decide +kernel,rfl,by decide +kernel,by decide +kernel⟩
theorem ok_er {f gI:Addr} {fd dI:FuncData} (F:Fun K "entry_read" "entry_read" sER f fd) (DI:Dfn K mg "is_word" sIsW gI dI ["text"]) (GI:FnOk P w K mg base CX0 2 gI dI ["text"] spIsW) {tn:Tok} (mN:mg "NO_ENTRY" = some (.str (Str.ofString "-") tn)):FnOk P w K mg base CX0 3 f fd ["text"] spER:=by
 refine Fun.okR F scER (fun vs H Q E h=>?_) (fun cdv A outer s H vs Q Q2 E hr h hq=>?_)
 ·obtain ⟨v,rfl,_⟩:=h
  rfl
 ·obtain ⟨v,rfl,hv,q⟩:=h
  refine ⟨_,pss_cons (ps_if (pt_cmpR op_eq (pv 0) (pe_glob (v:=.str (Str.ofString "-")) (by rfl) mN ⟨_,rfl⟩) (nomark _)) (pss_one (ps_ret pe_non)) pss_nil)
   (pss_cons (ps_if (pt_not (pt_val (pe_call GI hr (by rfl) DI.at_ DI.fn.kp DI.bn .nil pass0 (pa_cons (pv 0) pa_nil)))) pss_never pss_nil)
   (pss_one (ps_ret (pv 0)))),?_⟩
  have go:Q2 v H:=hq _ _ (Rst.same (Same.refl H) q)
  refine ⟨_,rfl,rfl,_,rfl,?_⟩
  rcases hv with rfl | ⟨z,hz,rfl⟩
  ·exact iteY rfl go
  ·refine iteK (fun e=>dash_not hz (by injection e)) ?_
   refine ⟨_,rfl,z,rfl,few (by have:=hz.hi;omega),_,rfl,?_⟩
   rw [wordB_iff.mpr hz]
   exact iteF ⟨_,rfl,go⟩
def spESR:Sp:=fun vs H Q _=>∃ es:List V,vs=[.str (headS es)]/\(∀ e ∈ es,Ent e)/\es.length<=1200/\∀ (H':Hp) (p:Addr),Same H H'->H' p=some (.tup es)->Q (.ref p) H'
theorem scESR:FnScope ["line"] ["line"] (defScope sESR):=⟨rfl,rfl,rfl,by decide +kernel,rfl,by decide +kernel,by decide +kernel⟩
theorem nd_part:(["part"]:List Str).Nodup:=by decide +kernel
theorem ok_esr {f gE:Addr} {fd dE:FuncData} (F:Fun K "entries_read" "entries_read" sESR f fd) (DE:Dfn K mg "entry_read" sER gE dE ["text"]) (GE:FnOk P w K mg base CX0 3 gE dE ["text"] spER) (mtup:mg "tuple" = none):FnOk P w K mg base CX0 4 f fd ["line"] spESR:=by
 refine F.ok scESR (fun vs H Q E h=>?_) (fun cdv A outer s H vs Q E hr h=>?_)
 ·obtain ⟨es,rfl,_⟩:=h
  rfl
 ·obtain ⟨es,rfl,hE,hl,q⟩:=h
  refine ⟨_,pss_cons (ps_if (pt_cmpR op_eq (pv 0) pe_str (nomark _)) (pss_one (ps_ret (pe_tup pa_nil))) pss_nil)
   (pss_one (ps_ret (pe_callTy call_tuple_of (by rfl) mtup boot_tuple (pa_cons (pe_comp (Nc:=["part"]) (mp:=[none]) rfl (CompOk.of (by rfl)) (pi_list (pe_bm PySem.F.plainAttrs_str PySem.F.slot_str_split PySem.F.type_str_split mt_splitB (pv 0) (pa_cons pe_str pa_nil))) (fun cl C s H fp=>⟨pg_name (i:=0) nd_part rfl (Or.inl rfl),pts_nil,(pe_call GE hr (by rfl) DE.at_ DE.fn.kp DE.bn .nil pass0 (pa_cons (pv 0) pa_nil))⟩)) pa_nil)))),?_⟩
  refine ⟨_,rfl,rfl,_,rfl,?_⟩
  have hh:=head_len hE
  by_cases h0:es=[]
  ·subst h0
   exact iteY rfl ⟨Nat.zero_le _,fun p hp=>q _ p (same_upd hp) upd_same⟩
  ·refine iteK (fun e=>h0 ((head_nil hE).mp (by injection e))) ?_
   refine ⟨_,rfl,rfl,_,_,rfl,rfl,(by decide +kernel),by omega,fun p hp=>?_⟩
   rw [cut_head hE h0]
   have S1:=same_upd (o:=.lst ((es.map entS).map V.str)) hp
   have h1:upd H p (.lst ((es.map entS).map V.str)) p=some (.lst (es.map fun e=>V.str (entS e))):=by rw [upd_same,List.map_map];rfl
   generalize upd H p (.lst ((es.map entS).map V.str))=H1 at S1 h1
   refine ⟨p,rfl,⟨_,SqL.of h1⟩,comp_map (as:=es) (v:=fun e=>V.str (entS e)) id (src_list (SqL.of h1)) (few (by omega)) (fun e he k hk=>⟨_,rfl,e,rfl,hE e he,hk⟩) (fun D hD=>?_)⟩
   rw [List.map_id]
   have S2:=same_upd (o:=.lst es) hD
   refine ⟨D,_,rfl,.inl ⟨SqL.of upd_same,fun r hr=>?_⟩⟩
   exact q _ r ((S1.trans S2).trans (same_upd hr)) upd_same
def spNR:Sp:=fun vs H Q _=>∃ n:Nat,vs=[.str (numS ((n:Nat):Int))]/\n < 1200/\Q (natV n) H
theorem scNR:FnScope ["text","number"] ["text"] (defScope sNR):=⟨rfl,rfl,rfl,by decide +kernel,rfl,by decide +kernel,by decide +kernel⟩
theorem ok_nr {f gN:Addr} {fd dN:FuncData} (F:Fun K "number_read" "number_read" sNR f fd) (DN:Dfn K mg "number_of" sNum gN dN ["text","most"]) (GN:FnOk P w K mg base CX0 3 gN dN ["text","most"] spNum) {tm:Tok} (mM:mg "MOST_PRICE" = some (.int 1000000000000000000000000000000 tm)):FnOk P w K mg base CX0 4 f fd ["text"] spNR:=by
 refine Fun.okR F scNR (fun vs H Q E h=>?_) (fun cdv A outer s H vs Q Q2 E hr h hq=>?_)
 ·obtain ⟨n,rfl,_⟩:=h
  rfl
 ·obtain ⟨n,rfl,hn,q⟩:=h
  refine ⟨_,pss_cons (ps_set (i:=1) scNR.nd rfl (Or.inl rfl) (pe_call GN hr (by rfl) DN.at_ DN.fn.kp DN.bn .nil pass0 (pa_cons (pv 0) (pa_cons (pe_glob (v:=.int 1000000000000000000000000000000) (by rfl) mM ⟨_,rfl⟩) pa_nil))))
   (pss_cons (ps_if (pt_cmpR op_isN (pv 1) pe_non (nomark _)) pss_never pss_nil)
   (pss_one (ps_ret (pv 1)))),?_⟩
  have go:Q2 (natV n) H:=hq _ _ (Rst.same (Same.refl H) q)
  have hl:=numS_le (m:=n) (k:=3) (by omega)
  refine ⟨_,rfl,_,_,rfl,by omega,by decide,by decide,?_⟩
  rw [num1200 n hn]
  exact ⟨_,rfl,rfl,_,rfl,iteK (fun e=>nomatch e) ⟨_,rfl,go⟩⟩
def spPR:Sp:=fun vs H Q _=>∃ z y a b:Str,vs=[.str z,.str y]/\Txt.split z y=[a,b]/\1<=y.length/\z.length<=1000000/\∀ p,H p=none->Q (.ref p) (upd H p (.lst [.str a,.str b]))
theorem scPR:FnScope ["text","between","parts"] ["text","between"] (defScope sPR):=⟨rfl,rfl,rfl,by decide +kernel,rfl,by decide +kernel,by decide +kernel⟩
theorem ok_pr {f:Addr} {fd:FuncData} (F:Fun K "parts_read" "parts_read" sPR f fd) (mlen:mg "len" = none):FnOk P w K mg base CX0 1 f fd ["text","between"] spPR:=by
 refine F.ok scPR (fun vs H Q E h=>?_) (fun cdv A outer s H vs Q E hr h=>?_)
 ·obtain ⟨z,y,a,b,rfl,_⟩:=h
  rfl
 ·obtain ⟨z,y,a,b,rfl,hs,hy,hz,q⟩:=h
  refine ⟨_,pss_cons (ps_set (i:=2) scPR.nd rfl (Or.inl rfl) (pe_bm PySem.F.plainAttrs_str PySem.F.slot_str_split PySem.F.type_str_split mt_splitB (pv 0) (pa_cons (pv 1) pa_nil)))
   (pss_cons (ps_if (pt_cmpR op_ne (pe_callB call_len_seq (by rfl) mlen PySem.boot_len (pa_cons (pv 2) pa_nil)) pe_int (nomark _)) pss_never pss_nil)
   (pss_one (ps_ret (pv 2)))),?_⟩
  refine ⟨_,rfl,rfl,_,rfl,z,y,rfl,rfl,hy,by omega,fun p hp=>?_⟩
  rw [hs]
  refine ⟨_,rfl,p,_,rfl,.inl (SqL.of upd_same),rfl,_,rfl,iteNS rfl ⟨_,rfl,q p hp⟩⟩
def spRR:Sp:=fun vs H Q _=>∃ x:Rdg,vs=[.str (rdgS x)]/\RdgOk x/\x.2 ≠ []/\∀ (H':Hp) (t:Addr),Same H H'->RdgAt H' t x->Q (.ref t) H'
theorem scRR:FnScope ["text","parts"] ["text"] (defScope sRR):=⟨rfl,rfl,rfl,by decide +kernel,rfl,by decide +kernel,by decide +kernel⟩
theorem ok_rr {f gP gE gN:Addr} {fd dP dE dN:FuncData} (F:Fun K "reading_read" "reading_read" sRR f fd) (DP:Dfn K mg "parts_read" sPR gP dP ["text","between"]) (DE:Dfn K mg "entry_read" sER gE dE ["text"]) (DN:Dfn K mg "number_read" sNR gN dN ["text"]) (GP:FnOk P w K mg base CX0 4 gP dP ["text","between"] spPR) (GE:FnOk P w K mg base CX0 4 gE dE ["text"] spER) (GN:FnOk P w K mg base CX0 4 gN dN ["text"] spNR) (mtup:mg "tuple" = none):FnOk P w K mg base CX0 5 f fd ["text"] spRR:=by
 refine F.ok scRR (fun vs H Q E h=>?_) (fun cdv A outer s H vs Q E hr h=>?_)
 ·obtain ⟨x,rfl,_⟩:=h
  rfl
 ·obtain ⟨x,rfl,ho,hne,q⟩:=h
  refine ⟨_,pss_cons (ps_set (i:=1) scRR.nd rfl (Or.inl rfl) (pe_call GP hr (by rfl) DP.at_ DP.fn.kp DP.bn .nil pass0 (pa_cons (pv 0) (pa_cons pe_str pa_nil))))
   (pss_one (ps_ret (pe_tup (pa_cons (pe_call GE hr (by rfl) DE.at_ DE.fn.kp DE.bn .nil pass0 (pa_cons (pe_ix ix_list (pv 1) pe_int (fun _ _=>rfl)) pa_nil)) (pa_cons (pe_callTy call_tuple_of (by rfl) mtup boot_tuple (pa_cons (pe_comp (Nc:=["row"]) (mp:=[none]) rfl (CompOk.of (by rfl)) (pi_list (pe_bm PySem.F.plainAttrs_str PySem.F.slot_str_split PySem.F.type_str_split mt_splitB (pe_ix ix_list (pv 1) pe_int (fun _ _=>rfl)) (pa_cons pe_str pa_nil))) (fun cl C s H fp=>⟨pg_name (i:=0) nd_row rfl (Or.inl rfl),pts_nil,(pe_call GN hr (by rfl) DN.at_ DN.fn.kp DN.bn .nil pass0 (pa_cons (pv 0) pa_nil))⟩)) pa_nil)) pa_nil))))),?_⟩
  have hl:=rdg_len ho
  have hrl:=rows_len ho
  refine ⟨_,rfl,_,_,_,_,rfl,cut_rdg ho,(by decide +kernel),by omega,fun p hp=>?_⟩
  have S1:=same_upd (o:=.lst [V.str (entS x.1),.str (Str.join (Str.ofString ",") (x.2.map fun n=>numS ((n:Nat):Int)))]) hp
  have h1:upd H p (.lst [V.str (entS x.1),.str (Str.join (Str.ofString ",") (x.2.map fun n=>numS ((n:Nat):Int)))]) p=some (.lst [V.str (entS x.1),.str (Str.join (Str.ofString ",") (x.2.map fun n=>numS ((n:Nat):Int)))]):=upd_same
  generalize upd H p (.lst [V.str (entS x.1),.str (Str.join (Str.ofString ",") (x.2.map fun n=>numS ((n:Nat):Int)))])=H1 at S1 h1
  refine ⟨_,rfl,p,_,_,_,rfl,rfl,SqL.of h1,rfl,x.1,rfl,ho.1,_,rfl,p,_,_,_,rfl,rfl,SqL.of h1,rfl,rfl,_,_,rfl,rfl,(by decide +kernel),by omega,fun p2 hp2=>?_⟩
  rw [cut_rows hne]
  have S2:=same_upd (o:=.lst ((x.2.map fun n=>numS ((n:Nat):Int)).map V.str)) hp2
  have h2:upd H1 p2 (.lst ((x.2.map fun n=>numS ((n:Nat):Int)).map V.str)) p2=some (.lst (x.2.map fun n=>V.str (numS ((n:Nat):Int)))):=by rw [upd_same,List.map_map];rfl
  have S12:=S1.trans S2
  generalize upd H1 p2 (.lst ((x.2.map fun n=>numS ((n:Nat):Int)).map V.str))=H2 at S12 h2
  have h30:=ho.2.1
  refine ⟨p2,rfl,⟨_,SqL.of h2⟩,comp_map (as:=x.2) (v:=fun n=>V.str (numS ((n:Nat):Int))) natV (src_list (SqL.of h2)) (few (by omega)) (fun n hn k hk=>⟨_,rfl,n,rfl,by have:=ho.2.2 n hn;omega,hk⟩) (fun D hD=>?_)⟩
  have S3:=same_upd (o:=.lst (x.2.map natV)) hD
  refine ⟨D,_,rfl,.inl ⟨SqL.of upd_same,fun r hr=>?_⟩⟩
  have S4:=same_upd (o:=.tup (x.2.map natV)) hr
  refine ⟨few (by show 2<=_;omega),fun t ht=>?_⟩
  have S5:=same_upd (o:=.tup [x.1,.ref r]) ht
  exact q _ t (((S12.trans S3).trans S4).trans S5) ⟨ho,r,upd_same,S5 _ _ upd_same⟩
def spNTR:Sp:=fun vs H Q _=>∃ x:Note,vs=[.str (noteS x)]/\NoteOk x/\∀ (H':Hp) (t:Addr) (x':Note),Same H H'->NoteAt H' t x'->toldN x'=toldN x->Q (.ref t) H'
theorem scNTR:FnScope ["line","parts"] ["line"] (defScope sNTR):=⟨rfl,rfl,rfl,by decide +kernel,rfl,by decide +kernel,by decide +kernel⟩
theorem nd_reading:(["reading"]:List Str).Nodup:=by decide +kernel
theorem noteOk_len {x:Note} (h:NoteOk x):(noteS x).length<=3500:=by
 have h1:=rdgs_len (xs:=x.2) (fun y hy=>(h.2.2.2 y hy).1) h.2.2.1
 have h2:(Str.ofString ": ").length=2:=by decide +kernel
 have h3:=numS_le (m:=x.1) (k:=3) (by have:=h.1;omega)
 unfold noteS
 rw [app_len,app_len,h2]
 omega
theorem ok_ntr {f gP gR gN:Addr} {fd dP dR dN:FuncData} (F:Fun K "note_read" "note_read" sNTR f fd) (DP:Dfn K mg "parts_read" sPR gP dP ["text","between"]) (DR:Dfn K mg "reading_read" sRR gR dR ["text"]) (DN:Dfn K mg "number_read" sNR gN dN ["text"]) (GP:FnOk P w K mg base CX0 5 gP dP ["text","between"] spPR) (GR:FnOk P w K mg base CX0 5 gR dR ["text"] spRR) (GN:FnOk P w K mg base CX0 5 gN dN ["text"] spNR) (mtup:mg "tuple" = none):FnOk P w K mg base CX0 6 f fd ["line"] spNTR:=by
 refine F.ok scNTR (fun vs H Q E h=>?_) (fun cdv A outer s H vs Q E hr h=>?_)
 ·obtain ⟨x,rfl,_⟩:=h
  rfl
 ·obtain ⟨x,rfl,ho,q⟩:=h
  obtain ⟨o1,o2,o3,o4⟩:=ho
  have hok:∀ y ∈ x.2,RdgOk y.2:=fun y hy=>(o4 y hy).1
  have hl:=noteOk_len ⟨o1,o2,o3,o4⟩
  have hrl:=rdgs_len hok o3
  refine ⟨_,pss_cons (ps_set (i:=1) scNTR.nd rfl (Or.inl rfl) (pe_call GP hr (by rfl) DP.at_ DP.fn.kp DP.bn .nil pass0 (pa_cons (pv 0) (pa_cons pe_str pa_nil))))
   (pss_one (ps_ret (pe_tup (pa_cons (pe_call GN hr (by rfl) DN.at_ DN.fn.kp DN.bn .nil pass0 (pa_cons (pe_ix ix_list (pv 1) pe_int (fun _ _=>rfl)) pa_nil)) (pa_cons (pe_callTy call_tuple_of (by rfl) mtup boot_tuple (pa_cons (pe_comp (Nc:=["reading"]) (mp:=[none]) rfl (CompOk.of (by rfl)) (pi_list (pe_bm PySem.F.plainAttrs_str PySem.F.slot_str_split PySem.F.type_str_split mt_splitB (pe_ix ix_list (pv 1) pe_int (fun _ _=>rfl)) (pa_cons pe_str pa_nil))) (fun cl C s H fp=>⟨pg_name (i:=0) nd_reading rfl (Or.inl rfl),pts_nil,(pe_call GR hr (by rfl) DR.at_ DR.fn.kp DR.bn .nil pass0 (pa_cons (pv 0) pa_nil))⟩)) pa_nil)) pa_nil))))),?_⟩
  refine ⟨_,rfl,_,_,_,_,rfl,cut_note hok,(by decide +kernel),by omega,fun p hp=>?_⟩
  have S1:=same_upd (o:=.lst [V.str (numS ((x.1:Nat):Int)),.str (Str.join (Str.ofString "; ") (x.2.map fun y=>rdgS y.2))]) hp
  have h1:upd H p (.lst [V.str (numS ((x.1:Nat):Int)),.str (Str.join (Str.ofString "; ") (x.2.map fun y=>rdgS y.2))]) p=some (.lst [V.str (numS ((x.1:Nat):Int)),.str (Str.join (Str.ofString "; ") (x.2.map fun y=>rdgS y.2))]):=upd_same
  generalize upd H p (.lst [V.str (numS ((x.1:Nat):Int)),.str (Str.join (Str.ofString "; ") (x.2.map fun y=>rdgS y.2))])=H1 at S1 h1
  refine ⟨_,rfl,p,_,_,_,rfl,rfl,SqL.of h1,rfl,x.1,rfl,o1,_,rfl,p,_,_,_,rfl,rfl,SqL.of h1,rfl,rfl,_,_,rfl,rfl,(by decide +kernel),by omega,fun p2 hp2=>?_⟩
  rw [cut_rdgs hok o2]
  have S2:=same_upd (o:=.lst ((x.2.map fun y=>rdgS y.2).map V.str)) hp2
  have h2:upd H1 p2 (.lst ((x.2.map fun y=>rdgS y.2).map V.str)) p2=some (.lst (x.2.map fun y=>V.str (rdgS y.2))):=by rw [upd_same,List.map_map];rfl
  have S12:=S1.trans S2
  generalize upd H1 p2 (.lst ((x.2.map fun y=>rdgS y.2).map V.str))=H2 at S12 h2
  refine ⟨p2,rfl,⟨_,SqL.of h2⟩,comp_grow (as:=x.2) (v:=fun y=>V.str (rdgS y.2)) (fun i acc H'=>∃ ys:List (Addr × Rdg),acc=ys.map (fun y=>V.ref y.1)/\ys.length=i/\Same H2 H'/\(ys.map fun y=>y.2)=(x.2.take i).map (fun y=>y.2)/\∀ y ∈ ys,RdgAt H' y.1 y.2)
   (fun i acc H' _ ⟨_,_,_,S,_⟩=>src_list (SqL.of (S _ _ h2))) (few (by omega)) ⟨[],rfl,rfl,Same.refl _,rfl,(fun _ z=>nomatch z)⟩ (fun i acc H' ⟨ys,e,hl,_⟩=>by rw [e,List.length_map,hl]) ?_ ?_⟩
  ·rintro i y acc H' hy ⟨ys,rfl,hyl,S,e,hY⟩ k hk
   have hym:=List.mem_of_getElem? hy
   refine ⟨_,rfl,y.2,rfl,hok y hym,(o4 y hym).2,fun H3 t S3 h3=>?_⟩
   refine hk _ _ ⟨ys++[(t,y.2)],by rw [List.map_append];rfl,by rw [List.length_append,hyl];rfl,S.trans S3,?_,fun u hu=>?_⟩
   ·rw [List.map_append,e,take_snoc hy,List.map_append]
    rfl
   ·rcases List.mem_append.mp hu with hu | hu
    ·exact (hY u hu).mono S3
    ·rw [List.mem_singleton.mp hu]
     exact h3
  ·rintro acc H3 ⟨ys,rfl,hyl,S3,e,hY⟩ D hD
   rw [List.take_length] at e
   have S4:=same_upd (o:=.lst (ys.map fun y=>V.ref y.1)) hD
   refine ⟨D,_,rfl,.inl ⟨SqL.of upd_same,fun r hr=>?_⟩⟩
   have S5:=same_upd (o:=.tup (ys.map fun y=>V.ref y.1)) hr
   refine ⟨few (by show 2<=_;omega),fun t ht=>?_⟩
   have S6:=same_upd (o:=.tup [natV x.1,.ref r]) ht
   have S46:=(S4.trans S5).trans S6
   refine q _ t (x.1,ys) ((S12.trans S3).trans S46) ⟨by omega,(by show ys.length<=30;omega),fun y hy=>(hY y hy).mono S46,r,upd_same,S6 _ _ upd_same⟩ ?_
   show (x.1,ys.map fun z=>z.2)=(x.1,x.2.map fun z=>z.2)
   rw [e]
def spAR:Sp:=fun vs H Q _=>∃ (cs:List (Addr × List V)) (m:Nat) (ns:List (Addr × Note)),vs=[.str (appS (cs.map fun x=>x.2.getD 0 .non) ns)]/\(∀ x ∈ cs,x.2.length=m/\∀ e ∈ x.2,Ent e)/\1<=m/\m<=30/\cs.length<=1200/\(∀ y ∈ ns,NoteOk y.2)/\(ns.map fun y=>toldN y.2)=notesTo (pureC cs) cs.length ∧
 ∀ (H':Hp) (t p r:Addr) (ns':List (Addr × Note)),Same H H'->H' t=some (.tup [.ref p,.ref r])->H' p=some (.tup (cs.map fun x=>x.2.getD 0 .non))->H' r=some (.tup (ns'.map fun y=>V.ref y.1))->(∀ y ∈ ns',NoteAt H' y.1 y.2)->(ns'.map fun y=>toldN y.2)=(ns.map fun y=>toldN y.2)->Q (.ref t) H'
theorem scAR:FnScope ["text","lines","entries","notes"] ["text"] (defScope sAR):=⟨rfl,rfl,rfl,by decide +kernel,rfl,by decide +kernel,by decide +kernel⟩
theorem nd_line:(["line"]:List Str).Nodup:=by decide +kernel
theorem appOk_len {es:List V} {ns:List (Addr × Note)} (hE:∀ e ∈ es,Ent e) (hN:∀ y ∈ ns,NoteOk y.2) (h1:es.length<=1200) (h2:ns.length<=1200):(appS es ns).length<=6000000:=by
 have hh:=head_len hE
 have hj:=join_len (Str.ofString "\n") (headS es :: ns.map fun y=>noteS y.2)
 have h5:(Str.ofString "\n").length=1:=by decide +kernel
 have h6:=sum_le (ws:=ns.map fun y=>noteS y.2) (b:=3500) fun z hz=>by
  obtain ⟨y,hy,rfl⟩:=List.mem_map.mp hz
  exact noteOk_len (hN y hy)
 rw [List.length_map] at h6
 rw [h5,List.map_cons,List.sum_cons,List.length_cons,List.length_map] at hj
 unfold appS
 omega
theorem ok_ar {f gE gN gB:Addr} {fd dE dN dB:FuncData} (F:Fun K "apparatus_read" "apparatus_read" sAR f fd) (DE:Dfn K mg "entries_read" sESR gE dE ["line"]) (DN:Dfn K mg "note_read" sNTR gN dN ["line"]) (DB:Dfn K mg "collation_back" sOB gB dB ["entries","many","notes"]) (GE:FnOk P w K mg base CX0 6 gE dE ["line"] spESR) (GN:FnOk P w K mg base CX0 6 gN dN ["line"] spNTR) (GB:FnOk P w K mg base CX0 6 gB dB ["entries","many","notes"] (spOB K)) (mtup:mg "tuple" = none) {tr:Tok} (mR:mg "MOST_ROWS" = some (.int 30 tr)):FnOk P w K mg base CX0 7 f fd ["text"] spAR:=by
 refine F.ok scAR (fun vs H Q E h=>?_) (fun cdv A outer s H vs Q E hr h=>?_)
 ·obtain ⟨cs,m,ns,rfl,_⟩:=h
  rfl
 ·obtain ⟨cs,m,ns,rfl,hC,m1,m30,hcl,hN,hto,q⟩:=h
  refine ⟨_,pss_cons (ps_set (i:=1) scAR.nd rfl (Or.inl rfl) (pe_bm PySem.F.plainAttrs_str PySem.F.slot_str_split PySem.F.type_str_split mt_splitB (pv 0) (pa_cons pe_str pa_nil)))
   (pss_cons (ps_set (i:=2) scAR.nd rfl (Or.inl rfl) (pe_call GE hr (by rfl) DE.at_ DE.fn.kp DE.bn .nil pass0 (pa_cons (pe_ix ix_list (pv 1) pe_int (fun _ _=>rfl)) pa_nil)))
   (pss_cons (ps_set (i:=3) scAR.nd rfl (Or.inl rfl) (pe_callTy call_tuple_of (by rfl) mtup boot_tuple (pa_cons (pe_comp (Nc:=["line"]) (mp:=[none]) rfl (CompOk.of (by rfl)) (pi_list (pe_slice sl_lst (pv 1) (po_some pe_int) po_none)) (fun cl C s H fp=>⟨pg_name (i:=0) nd_line rfl (Or.inl rfl),pts_nil,(pe_call GN hr (by rfl) DN.at_ DN.fn.kp DN.bn .nil pass0 (pa_cons (pv 0) pa_nil))⟩)) pa_nil)))
   (pss_cons (ps_expr (pe_call GB hr (by rfl) DB.at_ DB.fn.kp DB.bn .nil pass0 (pa_cons (pv 2) (pa_cons (pe_glob (v:=.int 30) (by rfl) mR ⟨_,rfl⟩) (pa_cons (pv 3) pa_nil)))))
   (pss_one (ps_ret (pe_tup (pa_cons (pv 2) (pa_cons (pv 3) pa_nil)))))))),?_⟩
  have hE:∀ e ∈ cs.map (fun x=>x.2.getD 0 .non),Ent e:=fun e he=>by
   obtain ⟨x,hx,rfl⟩:=List.mem_map.mp he
   obtain ⟨k2,k3⟩:=hC x hx
   have h0:0 < x.2.length:=by omega
   rw [List.getD_eq_getElem?_getD,List.getElem?_eq_getElem h0]
   exact k3 _ (List.getElem_mem h0)
  have hEl:(cs.map fun x=>x.2.getD 0 V.non).length<=1200:=by rw [List.length_map];exact hcl
  have hnl:ns.length<=1200:=by
   have e1:=congrArg List.length hto
   rw [List.length_map] at e1
   have e2:=notesTo_len (pureC cs) cs.length
   omega
  have eB:(cs.map fun x=>x.2.getD 0 V.non)=(longC m cs).map fun x=>x.2.getD 0 V.non:=by
   unfold longC
   rw [List.map_map]
   refine List.map_congr_left fun x hx=>?_
   exact (longer_zero (by have:=(hC x hx).1;omega) _).symm
  have hCL:∀ x ∈ longC m cs,x.2.length=30/\∀ e ∈ x.2,Ent e:=fun x hx=>by
   obtain ⟨y,hy,rfl⟩:=List.mem_map.mp hx
   obtain ⟨k2,k3⟩:=hC y hy
   have h0:0 < y.2.length:=by omega
   refine ⟨?_,fun e he=>?_⟩
   ·show (y.2++List.replicate (30 - m) (y.2.getD 0 .non)).length=30
    rw [List.length_append,List.length_replicate]
    omega
   ·rcases List.mem_append.mp he with he | he
    ·exact k3 e he
    ·rw [List.eq_of_mem_replicate he,List.getD_eq_getElem?_getD,List.getElem?_eq_getElem h0]
     exact k3 _ (List.getElem_mem h0)
  have eL:(longC m cs).length=cs.length:=by unfold longC;rw [List.length_map]
  have eT:notesTo (pureC (longC m cs)) (longC m cs).length=notesTo (pureC cs) cs.length:=by
   rw [eL]
   exact longC_notes (fun x hx=>by have:=(hC x hx).1;omega) _ (Nat.le_refl _)
  generalize hes:(cs.map fun x=>x.2.getD 0 V.non)=es at hE hEl eB q
  refine ⟨_,rfl,rfl,_,_,rfl,rfl,(by decide +kernel),(by have:=appOk_len hE hN hEl hnl;omega),fun p hp=>?_⟩
  rw [cut_app hE fun y hy z hz=>((hN y hy).2.2.2 z hz).1]
  have S1:=same_upd (o:=.lst ((headS es :: ns.map fun y=>noteS y.2).map V.str)) hp
  have h1:upd H p (.lst ((headS es :: ns.map fun y=>noteS y.2).map V.str)) p=some (.lst (V.str (headS es) :: ns.map fun y=>V.str (noteS y.2))):=by rw [upd_same,List.map_cons,List.map_map];rfl
  generalize upd H p (.lst ((headS es :: ns.map fun y=>noteS y.2).map V.str))=H1 at S1 h1
  refine ⟨_,rfl,p,_,_,_,rfl,rfl,SqL.of h1,atI_nat (j:=0) rfl,es,rfl,hE,hEl,fun H2 pe S2 h2=>?_⟩
  refine ⟨_,rfl,_,rfl,p,_,rfl,SqL.of (S2 _ _ h1),fun p3 hp3=>?_⟩
  rw [cut_tail]
  have S3:=same_upd (o:=.lst (ns.map fun y=>V.str (noteS y.2))) hp3
  have h3:upd H2 p3 (.lst (ns.map fun y=>V.str (noteS y.2))) p3=some (.lst (ns.map fun y=>V.str (noteS y.2))):=upd_same
  have S13:=(S1.trans S2).trans S3
  have h2:=S3 _ _ h2
  generalize upd H2 p3 (.lst (ns.map fun y=>V.str (noteS y.2)))=H3 at S13 h3 h2
  refine ⟨p3,rfl,⟨_,SqL.of h3⟩,comp_grow (as:=ns) (v:=fun y=>V.str (noteS y.2)) (fun i acc H'=>∃ ys:List (Addr × Note),acc=ys.map (fun y=>V.ref y.1)/\ys.length=i/\Same H3 H'/\(ys.map fun y=>toldN y.2)=(ns.take i).map (fun y=>toldN y.2)/\∀ y ∈ ys,NoteAt H' y.1 y.2)
   (fun i acc H' _ ⟨_,_,_,S,_⟩=>src_list (SqL.of (S _ _ h3))) (few (by omega)) ⟨[],rfl,rfl,Same.refl _,rfl,(fun _ z=>nomatch z)⟩ (fun i acc H' ⟨ys,e,hl,_⟩=>by rw [e,List.length_map,hl]) ?_ ?_⟩
  ·rintro i y acc H' hy ⟨ys,rfl,hyl,S,e,hY⟩ k hk
   have hym:=List.mem_of_getElem? hy
   refine ⟨_,rfl,y.2,rfl,hN y hym,fun H4 t x' S4 h4 e4=>?_⟩
   refine hk _ _ ⟨ys++[(t,x')],by rw [List.map_append];rfl,by rw [List.length_append,hyl];rfl,S.trans S4,?_,fun u hu=>?_⟩
   ·rw [List.map_append,e,take_snoc hy,List.map_append]
    show _++[toldN x']=_++[toldN y.2]
    rw [e4]
   ·rcases List.mem_append.mp hu with hu | hu
    ·exact (hY u hu).mono S4
    ·rw [List.mem_singleton.mp hu]
     exact h4
  ·rintro acc H4 ⟨ys,rfl,hyl,S4,e,hY⟩ D hD
   rw [List.take_length] at e
   have T5:=same_upd (o:=.lst (ys.map fun y=>V.ref y.1)) hD
   refine ⟨D,_,rfl,.inl ⟨SqL.of upd_same,fun r hr=>?_⟩⟩
   have T6:=same_upd (o:=.tup (ys.map fun y=>V.ref y.1)) hr
   have h6:upd (upd H4 D (.lst (ys.map fun y=>V.ref y.1))) r (.tup (ys.map fun y=>V.ref y.1)) r=some (.tup (ys.map fun y=>V.ref y.1)):=upd_same
   have S46:=T5.trans T6
   generalize upd (upd H4 D (.lst (ys.map fun y=>V.ref y.1))) r (.tup (ys.map fun y=>V.ref y.1))=H6 at S46 h6
   have S36:=S4.trans S46
   have hY6:∀ y ∈ ys,NoteAt H6 y.1 y.2:=fun y hy=>(hY y hy).mono S46
   refine ⟨_,rfl,_,rfl,pe,r,longC m cs,30,ys,rfl,(by rw [<-eB];exact S36 _ _ h2),hCL,by decide,by decide,by rw [eL];exact hcl,h6,hY6,(by rw [eT,<-hto];exact e),fun H7 r7 as7 S7 h7 hl7 hc7=>?_⟩
   refine ⟨_,rfl,_,rfl,few (by show 2<=_;omega),fun t ht=>?_⟩
   have S8:=same_upd (o:=.tup [.ref pe,.ref r]) ht
   have S78:=S7.trans S8
   exact q _ t pe r ys ((S13.trans S36).trans S78) upd_same (S78 _ _ (S36 _ _ h2)) (S78 _ _ h6) (fun y hy=>(hY6 y hy).mono S78) e
theorem sameV_strs {H:Hp} {p r:Addr} {z:List Str} (hp:H p=some (.tup (z.map V.str))) (hr:H r=some (.tup (z.map V.str))) (hz:z.length<=100000):SameV H 1 (.ref p) (.ref r):=by
 refine .inr ⟨p,r,_,_,rfl,rfl,hp,hr,rfl,by rw [List.length_map];exact hz,fun i u v hu hv=>?_⟩
 rw [hu] at hv
 cases hv
 obtain ⟨y,_,rfl⟩:=List.mem_map.mp (List.mem_of_getElem? hu)
 exact .inl ⟨y,rfl,rfl⟩
def csOf (as:List Addr) (cols:List (List (Option Str))):List (Addr × List V):=(as.zip cols).map fun x=>(x.1,x.2.map optS)
theorem csOf_len {as:List Addr} {cols:List (List (Option Str))} (h:as.length=cols.length):(csOf as cols).length=cols.length:=by
 unfold csOf
 rw [List.length_map,List.length_zip,h,Nat.min_self]
theorem csOf_at {as:List Addr} {cols:List (List (Option Str))} {i:Nat} {a:Addr} {c:List (Option Str)} (h1:as[i]?=some a) (h2:cols[i]?=some c):(csOf as cols)[i]?=some (a,c.map optS):=by
 unfold csOf
 have e:(as.zip cols)[i]?=some (a,c):=List.getElem?_zip_eq_some.mpr ⟨h1,h2⟩
 rw [List.getElem?_map,e]
 rfl
theorem csOf_mem {as:List Addr} {cols:List (List (Option Str))} {x:Addr × List V} (h:x ∈ csOf as cols):∃ (i:Nat) (a:Addr) (c:List (Option Str)),as[i]?=some a/\cols[i]?=some c/\x=(a,c.map optS):=by
 unfold csOf at h
 obtain ⟨y,hy,rfl⟩:=List.mem_map.mp h
 obtain ⟨i,hi⟩:=List.mem_iff_getElem?.mp hy
 obtain ⟨a,b⟩:=List.getElem?_zip_eq_some.mp hi
 exact ⟨i,y.1,y.2,a,b,rfl⟩
theorem csOf_refs {as:List Addr} {cols:List (List (Option Str))} (h:as.length=cols.length):((csOf as cols).map fun x=>V.ref x.1)=as.map V.ref:=by
 unfold csOf
 rw [List.map_map]
 have e:as=(as.zip cols).map Prod.fst:=(List.map_fst_zip (Nat.le_of_eq h)).symm
 conv=>rhs;rw [e]
 rw [List.map_map]
 rfl
theorem head_colE (c:List (Option Str)):headOf c=colE 0 c:=by
 unfold headOf colE
 cases c <;> rfl
theorem csOf_heads {as:List Addr} {cols:List (List (Option Str))} (h:as.length=cols.length):((csOf as cols).map fun x=>x.2.getD 0 .non)=cols.map fun c=>optS (colE 0 c):=by
 unfold csOf
 rw [List.map_map]
 have e:cols=(as.zip cols).map Prod.snd:=(List.map_snd_zip (Nat.le_of_eq h.symm)).symm
 conv=>rhs;rw [e]
 rw [List.map_map]
 refine List.map_congr_left fun x _=>?_
 show (x.2.map optS).getD 0 .non=optS (colE 0 x.2)
 unfold colE
 cases x.2 <;> rfl
theorem base_at:∀ {cols:List (List (Option Str))} {k:Nat} {c:List (Option Str)} {z:Str},cols[k]?=some c->colE 0 c=some z->(cols.filterMap (colE 0))[heads (cols.take k)]?=some z
 | [],k,c,z,h,_=>by simp at h
 | d :: r,0,c,z,h,hz=>by
  have e:d=c:=Option.some.inj h
  subst e
  rw [List.filterMap_cons_some hz]
  rfl
 | d :: r,k+1,c,z,h,hz=>by
  have h:r[k]?=some c:=h
  have ih:=base_at h hz
  have e:heads ((d :: r).take (k+1))=(if (colE 0 d).isSome then 1 else 0)+heads (r.take k):=by
   show heads ([d]++r.take k)=_
   rw [heads_app]
   congr 1
   unfold heads
   rw [List.filter_cons,head_colE]
   cases (colE 0 d).isSome <;> rfl
  rw [e]
  cases hd:colE 0 d with
  | none=>
   rw [List.filterMap_cons_none hd]
   show (r.filterMap (colE 0))[0+heads (r.take k)]?=some z
   rw [Nat.zero_add]
   exact ih
  | some y=>
   rw [List.filterMap_cons_some hd]
   show (y :: r.filterMap (colE 0))[1+heads (r.take k)]?=some z
   rw [Nat.add_comm,List.getElem?_cons_succ]
   exact ih
theorem kindAt_at {cols:List (List (Option Str))} {k:Nat} {c:List (Option Str)} (h:cols[k]?=some c):kindAt cols k=if (colE 0 c).isSome then .int ((heads (cols.take k):Nat):Int) else .non:=by
 unfold kindAt
 rw [h]
 show (if (headOf c).isSome then _ else _)=_
 rw [head_colE]
theorem kinds_get {cols:List (List (Option Str))} {k:Nat} (h:k < cols.length):(kindsTo cols cols.length)[k]?=some (kindAt cols k):=by
 unfold kindsTo
 rw [List.getElem?_map,List.getElem?_range h]
 rfl
theorem col_ent {cols:List (List (Option Str))} {n:Nat} (hw:∀ c ∈ cols,c.length=n) (hg:∀ r,r < n->∀ z ∈ cols.filterMap (colE r),Good z) {c:List (Option Str)} (hc:c ∈ cols):∀ e ∈ c.map optS,Ent e:=fun e he=>by
 obtain ⟨o,ho,rfl⟩:=List.mem_map.mp he
 cases o with
 | none=>exact .inl rfl
 | some z=>
  refine .inr ⟨z,?_,rfl⟩
  obtain ⟨r,hr⟩:=List.mem_iff_getElem?.mp ho
  have hl:=(List.getElem?_eq_some_iff.mp hr).1
  rw [hw c hc] at hl
  exact hg r hl z (List.mem_filterMap.mpr ⟨c,hc,by unfold colE;rw [hr];rfl⟩)
def spLaw (K:PySem.W.Frag):Sp:=fun vs H Q _=>∃ (a:Addr) (ns:List Int),vs=[.ref a]/\SqL K H a (ns.map V.int)/\ns.length<=63/\(∀ m ∈ ns,Builtin.Int.intBits m<=1048576)/\∀ H',Q (.bl true) H'
theorem scLaw:FnScope ["script","base","copies","prices","found","line","told","kinds","k","back","rows","number"] ["script"] (defScope sLaw):=⟨rfl,rfl,rfl,by decide +kernel,rfl,by decide +kernel,by decide +kernel⟩
theorem nd_column:(["column"]:List Str).Nodup:=by decide +kernel
theorem ok_law {f gSc gO gKi gNo gAW gAR gOB gB gSm:Addr} {fd dSc dO dKi dNo dAW dAR dOB dB dSm:FuncData} (F:Fun K "law" "law" sLaw f fd)
  (DSc:Dfn K mg "_law_scene" sScene gSc dSc ["script","most"]) (GSc:FnOk P w K mg base CX0 9 gSc dSc ["script","most"] (spScene K)) (DO:Dfn K mg "collated" sColl gO dO ["base","copies","prices"]) (GO:FnOk P w K mg base CX0 9 gO dO ["base","copies","prices"] (spColl K)) (DKi:Dfn K mg "column_kinds" sColK gKi dKi ["base","copies","prices"]) (GKi:FnOk P w K mg base CX0 9 gKi dKi ["base","copies","prices"] (spColK K))
  (DNo:Dfn K mg "notes_of" sNof gNo dNo ["collation"]) (GNo:FnOk P w K mg base CX0 9 gNo dNo ["collation"] (spNof K)) (DAW:Dfn K mg "apparatus_written" sAW gAW dAW ["entries","notes"]) (GAW:FnOk P w K mg base CX0 9 gAW dAW ["entries","notes"] (spAW K)) (DAR:Dfn K mg "apparatus_read" sAR gAR dAR ["text"]) (GAR:FnOk P w K mg base CX0 9 gAR dAR ["text"] spAR) (DOB:Dfn K mg "collation_back" sOB gOB dOB ["entries","many","notes"]) (GOB:FnOk P w K mg base CX0 9 gOB dOB ["entries","many","notes"] (spOB K))
  (DB:Dfn K mg "row_back" sBack gB dB ["collation","number"]) (GB:FnOk P w K mg base CX0 9 gB dB ["collation","number"] (spBack K)) (DSm:Dfn K mg "_law_same" sSame gSm dSm ["found","due"]) (GSm:FnOk P w K mg base CX0 9 gSm dSm ["found","due"] (spSame 1)) (mlen:mg "len" = none) (mtup:mg "tuple" = none) (mrange:mg "range" = none) (mlist:mg "list" = none) (misi:mg "isinstance" = none) (mstr:mg "str" = none):FnOk P w K mg base CX0 10 f fd ["script"] (spLaw K):=by
 refine F.ok scLaw (fun vs H Q E h=>?_) (fun cdv A outer s H vs Q E hr h=>?_)
 ·obtain ⟨a,ns,rfl,_⟩:=h
  rfl
 ·obtain ⟨a,ns,rfl,hS,hn,hb,q⟩:=h
  refine ⟨_,pss_cons (ps_asg (pe_call GSc hr (by rfl) DSc.at_ DSc.fn.kp DSc.bn .nil pass0 (pa_cons (pv 0) (pa_cons pe_int pa_nil))) (pg_tup (n:=3) rfl (pgs_cons (pg_name (i:=1) scLaw.nd rfl (Or.inl rfl)) (pgs_cons (pg_name (i:=2) scLaw.nd rfl (Or.inl rfl)) (pgs_cons (pg_name (i:=3) scLaw.nd rfl (Or.inl rfl)) pgs_nil)))))
   (pss_cons (ps_set (i:=4) scLaw.nd rfl (Or.inl rfl) (pe_call GO hr (by rfl) DO.at_ DO.fn.kp DO.bn .nil pass0 (pa_cons (pv 1) (pa_cons (pv 2) (pa_cons (pv 3) pa_nil)))))
   (pss_cons (ps_set (i:=5) scLaw.nd rfl (Or.inl rfl) (pe_call GAW hr (by rfl) DAW.at_ DAW.fn.kp DAW.bn .nil pass0 (pa_cons (pe_callTy call_tuple_of (by rfl) mtup boot_tuple (pa_cons (pe_comp (Nc:=["column"]) (mp:=[none]) rfl (CompOk.of (by rfl)) (pi_tup (pv 4)) (fun cl C s H fp=>⟨pg_name (i:=0) nd_column rfl (Or.inl rfl),pts_nil,(pe_ix (ix_tupK (K:=K) rfl) (pv 0) pe_int (fun _ _=>rfl))⟩)) pa_nil)) (pa_cons (pe_call GNo hr (by rfl) DNo.at_ DNo.fn.kp DNo.bn .nil pass0 (pa_cons (pv 4) pa_nil)) pa_nil))))
   (pss_cons (ps_if (pt_not (pt_val (pe_callB call_isi (by rfl) misi boot_isinstance (pa_cons (pv 5) (pa_cons (pe_bltn (v:=.ty "str") (by rfl) mstr boot_str rfl) pa_nil))))) (pss_one (ps_ret pe_bl)) pss_nil)
   (pss_cons (ps_set (i:=6) scLaw.nd rfl (Or.inl rfl) (pe_call GAR hr (by rfl) DAR.at_ DAR.fn.kp DAR.bn .nil pass0 (pa_cons (pv 5) pa_nil)))
   (pss_cons (ps_if (PW.pt (pw_or (pt_not (pt_val (pe_callB call_isi (by rfl) misi boot_isinstance (pa_cons (pv 6) (pa_cons (pe_bltn (v:=.ty "tuple") (by rfl) mtup boot_tuple rfl) pa_nil))))) (pw_or1 (pt_cmpR op_ne (pe_callB call_len_seq (by rfl) mlen PySem.boot_len (pa_cons (pv 6) pa_nil)) pe_int (nomark _))))) (pss_one (ps_ret pe_bl)) pss_nil)
   (pss_cons (ps_set (i:=7) scLaw.nd rfl (Or.inl rfl) (pe_call GKi hr (by rfl) DKi.at_ DKi.fn.kp DKi.bn .nil pass0 (pa_cons (pv 1) (pa_cons (pv 2) (pa_cons (pv 3) pa_nil)))))
   (pss_cons (ps_if (PW.pt (pw_or (pt_not (pt_val (pe_callB call_isi (by rfl) misi boot_isinstance (pa_cons (pv 7) (pa_cons (pe_bltn (v:=.ty "tuple") (by rfl) mtup boot_tuple rfl) pa_nil))))) (pw_or1 (pt_cmpR op_ne (pe_callB call_len_seq (by rfl) mlen PySem.boot_len (pa_cons (pv 7) pa_nil)) (pe_callB call_len_seq (by rfl) mlen PySem.boot_len (pa_cons (pe_ix ix_tup (pv 6) pe_int (fun _ _=>rfl)) pa_nil)) (nomark _))))) (pss_one (ps_ret pe_bl)) pss_nil)
   (pss_cons (ps_for PassesOwn.never rfl (pi_range1 (by rfl) mrange (pa_cons (pe_callB call_len_seq (by rfl) mlen PySem.boot_len (pa_cons (pv 7) pa_nil)) pa_nil)) (pg_name (i:=8) scLaw.nd rfl (Or.inl rfl))
   (pss_cons (ps_if (pt_cmpR op_ne (pe_cmpR op_isN (pe_ix ix_tup (pv 7) (pv 8) (fun _ _=>rfl)) pe_non (nomark _)) (pe_cmpR op_isN (pe_ix ix_tup (pe_ix ix_tup (pv 6) pe_int (fun _ _=>rfl)) (pv 8) (fun _ _=>rfl)) pe_non (nomark _)) (nomark _)) (pss_one (ps_ret pe_bl)) pss_nil)
   (pss_one (ps_if (PW.pt (pw_and (pt_cmpR op_notN (pe_ix ix_tup (pv 7) (pv 8) (fun _ _=>rfl)) pe_non (nomark _)) (pw_and1 (pt_cmpR op_ne (pe_ix ix_tup (pe_ix ix_tup (pv 6) pe_int (fun _ _=>rfl)) (pv 8) (fun _ _=>rfl)) (pe_ix ix_tup (pv 1) (pe_ix ix_tup (pv 7) (pv 8) (fun _ _=>rfl)) (fun _ _=>rfl)) (nomark _))))) (pss_one (ps_ret pe_bl)) pss_nil))))
   (pss_cons (ps_set (i:=9) scLaw.nd rfl (Or.inl rfl) (pe_call GOB hr (by rfl) DOB.at_ DOB.fn.kp DOB.bn .nil pass0 (pa_cons (pe_ix ix_tup (pv 6) pe_int (fun _ _=>rfl)) (pa_cons (pe_op op_add pe_int (pe_callB call_len_seq (by rfl) mlen PySem.boot_len (pa_cons (pv 2) pa_nil))) (pa_cons (pe_ix ix_tup (pv 6) pe_int (fun _ _=>rfl)) pa_nil)))))
   (pss_cons (ps_set (i:=10) scLaw.nd rfl (Or.inl rfl) (pe_op op_cat (pe_lst (pa_cons (pv 1) pa_nil)) (pe_callTy call_list_of (by rfl) mlist boot_list (pa_cons (pv 2) pa_nil))))
   (pss_cons (ps_for PassesOwn.never rfl (pi_range1 (by rfl) mrange (pa_cons (pe_callB call_len_seq (by rfl) mlen PySem.boot_len (pa_cons (pv 10) pa_nil)) pa_nil)) (pg_name (i:=11) scLaw.nd rfl (Or.inl rfl))
   (pss_one (ps_if (pt_not (pt_val (pe_call GSm hr (by rfl) DSm.at_ DSm.fn.kp DSm.bn .nil pass0 (pa_cons (pe_call GB hr (by rfl) DB.at_ DB.fn.kp DB.bn .nil pass0 (pa_cons (pv 9) (pa_cons (pv 11) pa_nil))) (pa_cons (pe_ix ix_list (pv 10) (pv 11) (fun _ _=>rfl)) pa_nil))))) (pss_one (ps_ret pe_bl)) pss_nil)))
   (pss_one (ps_ret pe_bl))))))))))))),?_⟩
  refine ⟨_,rfl,a,ns,9,rfl,hS,hn,hb,by decide,fun H0 t0 p q0 r0 es qs pr S0 Z=>?_⟩
  refine ⟨t0,_,rfl,SqT.of Z.ht,rfl,_,_,rfl,_,_,rfl,_,_,rfl,rfl,?_⟩
  have hel:=Z.el
  have hql:=Z.ql
  refine ⟨_,rfl,_,rfl,_,rfl,p,q0,r0,es,qs,pr,rfl,SqT.of Z.hp,Z.hq,Z.rows,SqT.of Z.hr,Z.ge,by omega,by omega,Z.p7,fun H1 t as Ls S1 ht hC hA=>?_⟩
  have Z1:=Z.mono S1
  have hLl:Ls.length=qs.length:=by rw [hA.len,List.length_map]
  have hcl:(colsOf es Ls).length<=(es.length+1) * 51:=by
   refine colsTo_len (fun i=>wide_le fun z hz=>?_) _
   obtain ⟨L,hL,rfl⟩:=List.mem_map.mp hz
   obtain ⟨cs,hcs,hO⟩:=hA.mem hL
   obtain ⟨x,hx,rfl⟩:=List.mem_map.mp hcs
   have:=hO.gap i
   have:=(Z.rows x hx).2.2
   omega
  have hcl2:(colsOf es Ls).length<=306:=Nat.le_trans hcl (show (es.length+1) * 51<=6 * 51 from Nat.mul_le_mul_right _ (by omega))
  have hw:∀ c ∈ colsOf es Ls,c.length=qs.length+1:=fun c hc=>by rw [cols_width _ hc,hLl]
  have hb0:=back_of0 es Ls
  have hbj:∀ (j:Nat) (x:Addr × List Str),qs[j]?=some x->(colsOf es Ls).filterMap (colE (j+1))=x.2:=fun j x hx=>back_of hA (by rw [List.getElem?_map,hx];rfl)
  have hun:∀ Ls',LaidAll es pr (qs.map fun x=>x.2) Ls'->colsOf es Ls'=colsOf es Ls:=fun Ls' h'=>by rw [hA.uniq h']
  generalize colsOf es Ls=cols at hC hcl2 hw hb0 hbj hun
  have hgood:∀ r,r < qs.length+1->∀ z ∈ cols.filterMap (colE r),Good z:=fun r hr z hz=>by
   cases r with
   | zero=>rw [hb0] at hz;exact Z.ge z hz
   | succ j=>
    have hj:j < qs.length:=by omega
    rw [hbj j _ (List.getElem?_eq_getElem hj)] at hz
    exact (Z.rows _ (List.getElem_mem hj)).2.1 z hz
  have hCs:ColsAt H1 (csOf as cols) (qs.length+1):=fun x hx=>by
   obtain ⟨i,a,c,e1,e2,rfl⟩:=csOf_mem hx
   have hcm:=List.mem_of_getElem? e2
   exact ⟨hC.item i a c e1 e2,by rw [List.length_map];exact hw c hcm,col_ent hw hgood hcm⟩
  have ecl:(csOf as cols).length=cols.length:=csOf_len hC.len
  have eref:=csOf_refs hC.len
  have ehd:=csOf_heads hC.len
  have ht':H1 t=some (.tup ((csOf as cols).map fun x=>V.ref x.1)):=by rw [eref];exact ht
  have hcsat:∀ (i:Nat) (c:List (Option Str)),cols[i]?=some c->∃ a,(csOf as cols)[i]?=some (a,c.map optS):=fun i c hc=>by
   have hi:=(List.getElem?_eq_some_iff.mp hc).1
   exact ⟨_,csOf_at (List.getElem?_eq_getElem (by rw [hC.len];exact hi)) hc⟩
  generalize csOf as cols=cs at hCs ecl eref ehd ht' hcsat
  clear hC eref ht
  refine ⟨_,rfl,t,rfl,⟨_,SqT.of ht'⟩,comp_map (as:=cs) (v:=fun x=>V.ref x.1) (fun x=>x.2.getD 0 .non) (src_tup (SqT.of ht')) (few (by omega)) (fun x hx kc hk=>?_) (fun D hD=>?_)⟩
  ·obtain ⟨c1,c2,c3⟩:=hCs x hx
   exact ⟨_,rfl,x.1,_,_,_,rfl,rfl,SqT.of c1,atI_nat (j:=0) (by rw [List.getD_eq_getElem?_getD,List.getElem?_eq_getElem (by omega)];rfl),hk⟩
  have hE:∀ e ∈ cs.map (fun x=>x.2.getD 0 .non),Ent e:=fun e he=>by
   obtain ⟨x,hx,rfl⟩:=List.mem_map.mp he
   obtain ⟨k1,k2,k3⟩:=hCs x hx
   have h0:0 < x.2.length:=by omega
   rw [List.getD_eq_getElem?_getD,List.getElem?_eq_getElem h0]
   exact k3 _ (List.getElem_mem h0)
  have hEl:(cs.map fun x=>x.2.getD 0 V.non).length<=1200:=by rw [List.length_map];omega
  have T2:=same_upd (o:=.lst (cs.map fun x=>x.2.getD 0 .non)) hD
  refine ⟨D,_,rfl,.inl ⟨SqL.of upd_same,fun r3 hr3=>?_⟩⟩
  have T3:=same_upd (o:=.tup (cs.map fun x=>x.2.getD 0 .non)) hr3
  have h3:upd (upd H1 D (.lst (cs.map fun x=>x.2.getD 0 .non))) r3 (.tup (cs.map fun x=>x.2.getD 0 .non)) r3=some (.tup (cs.map fun x=>x.2.getD 0 .non)):=upd_same
  have S13:=T2.trans T3
  generalize upd (upd H1 D (.lst (cs.map fun x=>x.2.getD 0 .non))) r3 (.tup (cs.map fun x=>x.2.getD 0 .non))=H3 at S13 h3
  refine ⟨_,rfl,t,cs,qs.length+1,rfl,SqT.of (S13 _ _ ht'),hCs.mono S13,by omega,by omega,by omega,fun H4 r4 ns4 S4 h4 hN4 hto4=>?_⟩
  have hnl:ns4.length<=1200:=by
   have e1:=congrArg List.length hto4
   rw [List.length_map] at e1
   have e2:=notesTo_len (pureC cs) cs.length
   omega
  refine ⟨r3,r4,_,ns4,rfl,SqT.of (S4 _ _ h3),hE,SqT.of h4,hN4,hEl,hnl,?_⟩
  refine ⟨_,rfl,_,_,_,_,rfl,.str _,kit_same _,_,rfl,iteF ?_⟩
  have S14:=S13.trans S4
  refine ⟨_,rfl,cs,qs.length+1,ns4,rfl,(fun x hx=>⟨(hCs x hx).2.1,(hCs x hx).2.2⟩),by omega,by omega,by omega,notes_ok hN4 hto4 (by omega),hto4,fun H6 t6 p6 r6 ns6 S6 h6 hp6 hr6 hN6 hto6=>?_⟩
  have S16:=S14.trans S6
  have Z6:=Z1.mono S16
  refine ⟨_,rfl,_,_,_,_,rfl,.tup h6,kit_same _,_,rfl,iteF ?_⟩
  refine ⟨_,rfl,t6,_,rfl,.inr (SqT.of h6),rfl,_,rfl,iteNS rfl ?_⟩
  refine ⟨_,rfl,_,rfl,_,rfl,p,q0,r0,es,qs,pr,rfl,SqT.of Z6.hp,Z6.hq,Z6.rows,SqT.of Z6.hr,Z6.ge,by omega,by omega,Z6.p7,fun H8 t8 Ls8 S8 h8 hA8=>?_⟩
  rw [hun Ls8 hA8] at h8
  have h68:=S8 _ _ h6
  have hp8:=S8 _ _ hp6
  rw [ehd] at hp8
  have S18:=S16.trans S8
  have Z8:=Z1.mono S18
  have lk:(kindsTo cols cols.length).length=cols.length:=kindsTo_len _ _
  refine ⟨_,rfl,_,_,_,_,rfl,.tup h8,kit_same _,_,rfl,iteF ?_⟩
  refine ⟨_,rfl,t8,_,rfl,.inr (SqT.of h8),_,rfl,t6,_,_,_,rfl,rfl,SqT.of h68,rfl,p6,_,rfl,.inr (SqT.of hp8),rfl,_,rfl,?_⟩
  rw [lk,List.length_map]
  refine iteNS rfl ?_
  refine ⟨_,rfl,t8,_,rfl,.inr (SqT.of h8),_,rfl,by omega,by rw [lk];omega,?_⟩
  rw [lk,Int.toNat_natCast]
  refine for_range (n:=cols.length) (fun i σ H9=>∃ v8:Option V,σ=[some (.ref a),some (.ref p),some (.ref q0),some (.ref r0),some (.ref t),some (.str (appS (cs.map fun x=>x.2.getD 0 .non) ns4)),some (.ref t6),some (.ref t8),v8,none,none,none]/\H9=H8) ⟨none,rfl,rfl⟩ ?_ ?_
  ·rintro k σ H9 hk ⟨v8,rfl,rfl⟩
   have ei:(0:Int)+((k:Nat):Int)=((k:Nat):Int):=by omega
   rw [ei]
   have ek:=kinds_get hk
   have ec:=List.getElem?_eq_getElem hk
   have hd:(cols.map fun c=>optS (colE 0 c))[k]?=some (optS (colE 0 cols[k])):=by rw [List.getElem?_map,ec];rfl
   have hka:=kindAt_at ec
   have hba:=fun z=>base_at (z:=z) ec
   rw [hb0] at hba
   generalize cols[k]=c at ec hd hka hba
   refine ⟨_,rfl,_,rfl,t8,_,_,_,rfl,rfl,SqT.of h8,atI_nat ek,rfl,_,rfl,t6,_,_,_,rfl,rfl,SqT.of h68,rfl,_,rfl,p6,_,_,_,rfl,rfl,SqT.of hp8,atI_nat hd,rfl,rfl,_,rfl,?_⟩
   rw [hka]
   cases hc0:colE 0 c with
   | none=>
    refine iteNS rfl ?_
    refine ⟨_,rfl,_,rfl,t8,_,_,_,rfl,rfl,SqT.of h8,atI_nat ek,rfl,_,rfl,?_⟩
    rw [hka,hc0]
    exact iteF (iteF ⟨_,rfl,rfl⟩)
   | some z=>
    refine iteNS rfl ?_
    refine ⟨_,rfl,_,rfl,t8,_,_,_,rfl,rfl,SqT.of h8,atI_nat ek,rfl,_,rfl,?_⟩
    rw [hka,hc0]
    have hz:=hba z hc0
    have aes:atI (es.map V.str) ((heads (cols.take k):Nat):Int)=some (.str z):=atI_nat (by rw [List.getElem?_map,hz];rfl)
    refine iteT ⟨_,rfl,t6,_,_,_,rfl,rfl,SqT.of h68,rfl,_,rfl,p6,_,_,_,rfl,rfl,SqT.of hp8,atI_nat hd,_,rfl,_,rfl,_,rfl,t8,_,_,_,rfl,rfl,SqT.of h8,atI_nat ek,?_⟩
    rw [hka,hc0]
    exact ⟨p,_,_,_,rfl,rfl,SqT.of Z8.hp,aes,rfl,_,rfl,iteNS rfl ⟨_,rfl,rfl⟩⟩
  ·rintro σ H9 ⟨v8,rfl,rfl⟩
   have lq:(qs.map fun x=>V.ref x.1).length=qs.length:=List.length_map ..
   have hm:(1:Int)+((qs.length:Nat):Int)=((qs.length+1:Nat):Int):=by omega
   refine ⟨_,rfl,t6,_,_,_,rfl,rfl,SqT.of h68,rfl,_,rfl,q0,_,rfl,.inr (SqT.of Z8.hq),_,_,rfl,rfl,?_⟩
   rw [lq]
   refine ⟨_,rfl,t6,_,_,_,rfl,rfl,SqT.of h68,rfl,p6,r6,cs,qs.length+1,ns6,(by show [V.ref p6,V.int (1+((qs.length:Nat):Int)),V.ref r6]=_;rw [hm]),(by rw [ehd];exact hp8),(fun x hx=>⟨(hCs x hx).2.1,(hCs x hx).2.2⟩),by omega,by omega,by omega,S8 _ _ hr6,(fun y hy=>(hN6 y hy).mono S8),hto6.trans hto4,fun HA rA asA SA hrA hlA hcA=>?_⟩
   have hCA:ColumnsAt HA asA cols:=⟨by rw [hlA,ecl],fun i a c e1 e2=>by
    obtain ⟨a',e3⟩:=hcsat i c e2
    exact hcA i a _ e1 e3⟩
   have ZA:=Z8.mono SA
   refine ⟨_,rfl,few (by show 1<=_;omega),fun l2 hl2=>?_⟩
   have T2:=same_upd (o:=.lst [V.ref p]) hl2
   refine ⟨_,rfl,q0,_,rfl,.inr (SqT.of (T2 _ _ ZA.hq)),fun l3 hl3=>?_⟩
   have T3:=same_upd (o:=.lst (qs.map fun x=>V.ref x.1)) hl3
   refine ⟨l2,l3,_,_,rfl,rfl,T3 _ _ upd_same,upd_same,(by rw [List.length_map];exact few (by show 1+_<=_;omega)),fun l4 hl4=>?_⟩
   have T4:=same_upd (o:=.lst ([V.ref p]++qs.map fun x=>V.ref x.1)) hl4
   have SB:=(T2.trans T3).trans T4
   have h44:upd (upd (upd HA l2 (.lst [V.ref p])) l3 (.lst (qs.map fun x=>V.ref x.1))) l4 (.lst ([V.ref p]++qs.map fun x=>V.ref x.1)) l4=some (.lst (((p,es) :: qs).map fun x=>V.ref x.1)):=upd_same
   generalize upd (upd (upd HA l2 (.lst [V.ref p])) l3 (.lst (qs.map fun x=>V.ref x.1))) l4 (.lst ([V.ref p]++qs.map fun x=>V.ref x.1))=HB at SB h44
   have hrB:=SB _ _ hrA
   have hCB:=hCA.mono SB
   have ZB:=ZA.mono SB
   have lB:(((p,es) :: qs).map fun x=>V.ref x.1).length=qs.length+1:=by rw [List.length_map];rfl
   refine ⟨_,rfl,l4,_,rfl,.inl (SqL.of h44),_,rfl,by omega,by rw [lB];omega,?_⟩
   rw [lB,Int.toNat_natCast]
   refine for_range (n:=qs.length+1) (fun i σ H5=>∃ v11:Option V,σ=[some (.ref a),some (.ref p),some (.ref q0),some (.ref r0),some (.ref t),some (.str (appS (cs.map fun x=>x.2.getD 0 .non) ns4)),some (.ref t6),some (.ref t8),v8,some (.ref rA),some (.ref l4),v11]/\Same HB H5) ⟨none,rfl,Same.refl _⟩ ?_ ?_
   ·rintro i σ H5 hi ⟨v11,rfl,S5⟩
    have ei:(0:Int)+((i:Nat):Int)=((i:Nat):Int):=by omega
    rw [ei]
    have hrow:∃ (b:Addr) (z:List Str),((p,es) :: qs)[i]?=some (b,z)/\cols.filterMap (colE i)=z/\H5 b=some (.tup (z.map V.str))/\z.length<=50:=by
     cases i with
     | zero=>exact ⟨p,es,rfl,hb0,S5 _ _ ZB.hp,by omega⟩
     | succ j=>
      have hj:j < qs.length:=by omega
      have e:=List.getElem?_eq_getElem hj
      obtain ⟨r1,r2,r3⟩:=ZB.rows _ (List.getElem_mem hj)
      exact ⟨_,_,e,hbj j _ e,S5 _ _ r1,r3⟩
    obtain ⟨b,z,hbz,hz,hbH,hzl⟩:=hrow
    have arow:atI (((p,es) :: qs).map fun x=>V.ref x.1) ((i:Nat):Int)=some (.ref b):=atI_nat (by rw [List.getElem?_map,hbz];rfl)
    refine ⟨_,rfl,_,rfl,rA,asA,cols,qs.length+1,i,rfl,S5 _ _ hrB,hCB.mono S5,hw,hi,by omega,fun H6' r6' S6' h6'=>?_⟩
    rw [hz] at h6'
    exact ⟨_,rfl,_,rfl,l4,_,_,_,rfl,rfl,SqL.of (S6' _ _ (S5 _ _ h44)),arow,_,_,rfl,sameV_strs h6' (S6' _ _ hbH) (by omega),_,rfl,iteF ⟨_,rfl,S5.trans S6'⟩⟩
   ·rintro σ H5 ⟨v11,rfl,S5⟩
    exact q _
theorem ok_all {f gLooks gSkF gFits gWd gWw gAfter gPrice gSwW gSkL gWays gEmp gTld gRtab gCW gFC gLaid gRdf gNof gCB gOB gHas gIsW gWr gNum gEW gRW gNW gAW gER gESR gNR gPR gRR gNTR gAR gEntry gGapC gColl gColK gBack gCell gDraw gWordBy gPool gRowBy gCopyBy gPricesBy gSame gScene aG aD CN:Addr} {fd dLooks dSkF dFits dWd dWw dAfter dPrice dSwW dSkL dWays dEmp dTld dRtab dCW dFC dLaid dRdf dNof dCB dOB dHas dIsW dWr dNum dEW dRW dNW dAW dER dESR dNR dPR dRR dNTR dAR dEntry dGapC dColl dColK dBack dCell dDraw dWordBy dPool dRowBy dCopyBy dPricesBy dSame dScene:FuncData} {esD:Array DictEntry} {nD:Nat} (F:Fun K "law" "law" sLaw f fd)
  (DLooks:Dfn K mg "looks_alike" sLooks gLooks dLooks ["one","two"])
  (DSkF:Dfn K mg "skip_fits" sSkF gSkF dSkF ["elder","done","many"])
  (DFits:Dfn K mg "step_fits" sFits gFits dFits ["elder","done","last","step"])
  (DWd:Dfn K mg "words_done" sWd gWd dWd ["step"])
  (DWw:Dfn K mg "words_written" sWw gWw dWw ["elder","done","last","step"])
  (DAfter:Dfn K mg "step_after" sAfter gAfter dAfter ["elder","done","last","step"])
  (DPrice:Dfn K mg "step_price" sPrice gPrice dPrice ["elder","done","step","prices"])
  (DSwW:Dfn K mg "swap_writes" sSwW gSwW dSwW ["elder","copy","i","j"])
  (DSkL:Dfn K mg "skip_lengths" sSkL gSkL dSkL ["elder","i"])
  (DWays:Dfn K mg "knot_ways" sWays gWays dWays ["elder","copy","i","j"])
  (DEmp:Dfn K mg "empty_table" sEmp gEmp dEmp ["elder","copy"])
  (DTld:Dfn K mg "table_told" sTld gTld dTld ["table"])
  (DRtab:Dfn K mg "rest_table" sRtab gRtab dRtab ["elder","copy","prices"])
  (DCW:Dfn K mg "cheapest_ways" sCW gCW dCW ["elder","copy","prices","rest","i","j"])
  (DFC:Dfn K mg "first_cheapest" sFC gFC dFC ["elder","copy","prices"])
  (DLaid:Dfn K mg "laid_words" sLaid gLaid dLaid ["base","copy","prices"])
  (DRdf:Dfn K mg "readings_of" sRdf gRdf dRdf ["column"])
  (DNof:Dfn K mg "notes_of" sNof gNof dNof ["collation"])
  (DCB:Dfn K mg "column_back" sCB gCB dCB ["entry","many","readings"])
  (DOB:Dfn K mg "collation_back" sOB gOB dOB ["entries","many","notes"])
  (DHas:Dfn K mg "has_only" sHas gHas dHas ["text","signs"])
  (DIsW:Dfn K mg "is_word" sIsW gIsW dIsW ["text"])
  (DWr:Dfn K mg "writes_number" sWr gWr dWr ["text"])
  (DNum:Dfn K mg "number_of" sNum gNum dNum ["text","most"])
  (DEW:Dfn K mg "entry_written" sEW gEW dEW ["entry"])
  (DRW:Dfn K mg "reading_written" sRW gRW dRW ["entry","rows"])
  (DNW:Dfn K mg "note_written" sNW gNW dNW ["number","readings"])
  (DAW:Dfn K mg "apparatus_written" sAW gAW dAW ["entries","notes"])
  (DER:Dfn K mg "entry_read" sER gER dER ["text"])
  (DESR:Dfn K mg "entries_read" sESR gESR dESR ["line"])
  (DNR:Dfn K mg "number_read" sNR gNR dNR ["text"])
  (DPR:Dfn K mg "parts_read" sPR gPR dPR ["text","between"])
  (DRR:Dfn K mg "reading_read" sRR gRR dRR ["text"])
  (DNTR:Dfn K mg "note_read" sNTR gNTR dNTR ["line"])
  (DAR:Dfn K mg "apparatus_read" sAR gAR dAR ["text"])
  (DEntry:Dfn K mg "entry_at" sEntry gEntry dEntry ["words","place"])
  (DGapC:Dfn K mg "gap_columns" sGapC gGapC dGapC ["gap"])
  (DColl:Dfn K mg "collated" sColl gColl dColl ["base","copies","prices"])
  (DColK:Dfn K mg "column_kinds" sColK gColK dColK ["base","copies","prices"])
  (DBack:Dfn K mg "row_back" sBack gBack dBack ["collation","number"])
  (DCell:Dfn K mg "_law_cell_at" sCell gCell dCell ["script","k"])
  (DDraw:Dfn K mg "_law_draw" sDraw gDraw dDraw ["cell","k","many"])
  (DWordBy:Dfn K mg "_law_word_by" sWordBy gWordBy dWordBy ["cell","k"])
  (DPool:Dfn K mg "_law_pool" sPool gPool dPool ["cell"])
  (DRowBy:Dfn K mg "_law_row_by" sRowBy gRowBy dRowBy ["cell","pool","most"])
  (DCopyBy:Dfn K mg "_law_copy_by" sCopyBy gCopyBy dCopyBy ["base","cell","pool","most"])
  (DPricesBy:Dfn K mg "_law_prices_by" sPricesBy gPricesBy dPricesBy ["cell"])
  (DSame:Dfn K mg "_law_same" sSame gSame dSame ["found","due"])
  (DScene:Dfn K mg "_law_scene" sScene gScene dScene ["script","most"])
  (mall:mg "all" = none) (mlen:mg "len" = none) (mrange:mg "range" = none) (misi:mg "isinstance" = none) (mtup:mg "tuple" = none) (mstr:mg "str" = none) (mint:mg "int" = none) (mbool:mg "bool" = none) (mmin:mg "min" = none) (menum:mg "enumerate" = none) (mmax:mg "max" = none) (mlist:mg "list" = none)
  {tk:Tok} (mLIKE:mg "LIKE" = some (.int 0 tk)) (mPP:mg "PRICE_PLACES" = some (.ref aD)) (mGK:mg "GAP_KINDS" = some (.ref aG)) (mNoSlips:mg "NoSlips" = some (.ref CN)) (xC:VEx K CN) (hGK:∀ H,SqT K H aG [.str (Str.ofString "add"),.str (Str.ofString "twice")]) (kk:Kinds K) (PL:Places w K aD esD nD) {tn tl tg tm tp tr:Tok} (mN:mg "NO_ENTRY" = some (.str (Str.ofString "-") tn)) (mL:mg "LETTERS" = some (.str letters tl)) (mF:mg "FIGURES" = some (.str figures tg)) (mML:mg "MOST_LETTERS" = some (.int 12 tm)) (mMP:mg "MOST_PRICE" = some (.int 1000000000000000000000000000000 tp)) (mMR:mg "MOST_ROWS" = some (.int 30 tr)) :
  FnOk P w K mg base CX0 10 f fd ["script"] (spLaw K):=by
 have GAfter:FnOk P w K mg base (CXv P w) 4 gAfter dAfter ["elder","done","last","step"] (spAfter K CN):=(ok_after DAfter.fn DFits DSkF DWd DWw mNoSlips xC mlen).mono (by decide)
 have GLooks:FnOk P w K mg base CX0 1 gLooks dLooks ["one","two"] spAlike:=ok_Looks DLooks.fn mlen mrange
 have GPrice:FnOk P w K mg base CX0 2 gPrice dPrice ["elder","done","step","prices"] (spPrice K):=ok_price DPrice.fn DLooks GLooks mLIKE mPP PL
 have GWays:FnOk P w K mg base CX0 2 gWays dWays ["elder","copy","i","j"] (spWays K):=ok_ways DWays.fn DSwW DSkL mlen mrange
 have GRtab:FnOk P w K mg base CX0 3 gRtab dRtab ["elder","copy","prices"] (spRtab K):=ok_rtab DRtab.fn DEmp DTld DWays GWays DPrice GPrice mlen mrange mtup mmin
 have GCW:FnOk P w K mg base CX0 3 gCW dCW ["elder","copy","prices","rest","i","j"] (spCW K):=ok_cw DCW.fn DWays GWays DPrice GPrice
 have GFC:FnOk P w K mg base CX0 4 gFC dFC ["elder","copy","prices"] (spFC K):=ok_fc DFC.fn DRtab GRtab DCW GCW mlen mtup
 have GLaid:FnOk P w K mg base CX0 5 gLaid dLaid ["base","copy","prices"] (spLaid K):=(ok_laid DLaid.fn DFC GFC DAfter GAfter mGK hGK mlen mtup menum).mono (by decide)
 have GSame:FnOk P w K mg base CX0 9 gSame dSame ["found","due"] (spSame 1):=(ok_same DSame.fn DSame misi mtup mstr mint mbool mlen mrange mall kk 1).mono (by decide)
 have GCell:FnOk P w K mg base CX0 8 gCell dCell ["script","k"] (spCell K):=(ok_cell DCell.fn mlen).mono (by decide)
 have GDraw:FnOk P w K mg base CX0 8 gDraw dDraw ["cell","k","many"] spDraw:=(ok_draw DDraw.fn).mono (by decide)
 have GPool:FnOk P w K mg base CX0 8 gPool dPool ["cell"] spPool:=(ok_pool DPool.fn DDraw DWordBy mrange mlen).mono (by decide)
 have GRowBy:FnOk P w K mg base CX0 8 gRowBy dRowBy ["cell","pool","most"] spRowBy:=(ok_rowby DRowBy.fn DDraw mrange mlen mtup).mono (by decide)
 have GCopyBy:FnOk P w K mg base CX0 8 gCopyBy dCopyBy ["base","cell","pool","most"] (spCopyBy K):=(ok_copyby DCopyBy.fn DDraw mrange mlen mtup mint).mono (by decide)
 have GPricesBy:FnOk P w K mg base CX0 8 gPricesBy dPricesBy ["cell"] spPricesBy:=(ok_pricesby DPricesBy.fn DDraw mrange mtup).mono (by decide)
 have GGapC:FnOk P w K mg base CX0 5 gGapC dGapC ["gap"] (spGapC K):=(ok_gapc DGapC.fn DEntry mlen mtup mrange mmax).mono (by decide)
 have GColl:FnOk P w K mg base CX0 6 gColl dColl ["base","copies","prices"] (spColl K):=ok_coll DColl.fn DLaid GLaid DGapC GGapC mlen mtup mrange
 have GScene:FnOk P w K mg base CX0 9 gScene dScene ["script","most"] (spScene K):=ok_scene DScene.fn DCell GCell DDraw GDraw DPool GPool DRowBy GRowBy DCopyBy GCopyBy DPricesBy GPricesBy mtup
 have GColK:FnOk P w K mg base CX0 9 gColK dColK ["base","copies","prices"] (spColK K):=(ok_colk DColK.fn DColl GColl mtup).mono (by decide)
 have GBack:FnOk P w K mg base CX0 9 gBack dBack ["collation","number"] (spBack K):=(ok_back DBack.fn mtup).mono (by decide)
 have GNof:FnOk P w K mg base CX0 9 gNof dNof ["collation"] (spNof K):=(ok_nof DNof.fn DRdf mlen mtup menum).mono (by decide)
 have GAW:FnOk P w K mg base CX0 9 gAW dAW ["entries","notes"] (spAW K):=(ok_aw DAW.fn DEW DRW DNW mstr mN).mono (by decide)
 have GOB:FnOk P w K mg base CX0 6 gOB dOB ["entries","many","notes"] (spOB K):=(ok_ob DOB.fn DRdf DCB mlen mtup menum).mono (by decide)
 have GER:FnOk P w K mg base CX0 3 gER dER ["text"] spER:=ok_er DER.fn DIsW (ok_isw DIsW.fn DHas mall mlen mL mML) mN
 have GNR:FnOk P w K mg base CX0 4 gNR dNR ["text"] spNR:=ok_nr DNR.fn DNum (ok_num DNum.fn DWr DHas mall mlen mstr mint mF) mMP
 have GPR:FnOk P w K mg base CX0 1 gPR dPR ["text","between"] spPR:=ok_pr DPR.fn mlen
 have GRR:FnOk P w K mg base CX0 5 gRR dRR ["text"] spRR:=ok_rr DRR.fn DPR DER DNR (GPR.mono (by decide)) (GER.mono (by decide)) GNR mtup
 have GNTR:FnOk P w K mg base CX0 6 gNTR dNTR ["line"] spNTR:=ok_ntr DNTR.fn DPR DRR DNR (GPR.mono (by decide)) GRR (GNR.mono (by decide)) mtup
 have GESR:FnOk P w K mg base CX0 6 gESR dESR ["line"] spESR:=(ok_esr DESR.fn DER GER mtup).mono (by decide)
 have GAR:FnOk P w K mg base CX0 9 gAR dAR ["text"] spAR:=(ok_ar DAR.fn DESR DNTR DOB GESR GNTR GOB mtup mMR).mono (by decide)
 exact ok_law F DScene GScene DColl (GColl.mono (by decide)) DColK GColK DNof GNof DAW GAW DAR GAR DOB (GOB.mono (by decide)) DBack GBack DSame GSame mlen mtup mrange mlist misi mstr
end
theorem all_mk {l:PySem.W.OpenLaw} {w:World} {K:PySem.W.Frag} {h:Heap} {mg:Str->Option Value} {fa fLooks fSkF fFits fWd fWw fAfter fPrice fSwW fSkL fWays fEmp fTld fRtab fCW fFC fLaid fRdf fNof fCB fOB fHas fIsW fWr fNum fEW fRW fNW fAW fER fESR fNR fPR fRR fNTR fAR fEntry fGapC fColl fColK fBack fCell fDraw fWordBy fPool fRowBy fCopyBy fPricesBy fSame fScene fLaw CNoSlips:Addr} (X:K.In h) (G:h.Ns mainGlobals mg) (hfa:mg "law" = some (.ref fa))
  {odLooks anLooks odSkF anSkF odFits anFits odWd anWd odWw anWw odAfter anAfter odPrice anPrice odSwW anSwW odSkL anSkL odWays anWays odEmp anEmp odTld anTld odRtab anRtab odCW anCW odFC anFC odLaid anLaid odRdf anRdf odNof anNof odCB anCB odOB anOB odHas anHas odIsW anIsW odWr anWr odNum anNum odEW anEW odRW anRW odNW anNW odAW anAW odER anER odESR anESR odNR anNR odPR anPR odRR anRR odNTR anNTR odAR anAR odEntry anEntry odGapC anGapC odColl anColl odColK anColK odBack anBack odCell anCell odDraw anDraw odWordBy anWordBy odPool anPool odRowBy anRowBy odCopyBy anCopyBy odPricesBy anPricesBy odSame anSame odScene anScene odLaw anLaw:Option Addr} {slLooks slSkF slFits slWd slWw slAfter slPrice slSwW slSkL slWays slEmp slTld slRtab slCW slFC slLaid slRdf slNof slCB slOB slHas slIsW slWr slNum slEW slRW slNW slAW slER slESR slNR slPR slRR slNTR slAR slEntry slGapC slColl slColK slBack slCell slDraw slWordBy slPool slRowBy slCopyBy slPricesBy slSame slScene slLaw:Array (Option Value)} {ocLooks kVLooks dcLooks pmLooks cdLooks ctLooks ocSkF kVSkF dcSkF pmSkF cdSkF ctSkF ocFits kVFits dcFits pmFits cdFits ctFits ocWd kVWd dcWd pmWd cdWd ctWd ocWw kVWw dcWw pmWw cdWw ctWw ocAfter kVAfter dcAfter pmAfter cdAfter ctAfter ocPrice kVPrice dcPrice pmPrice cdPrice ctPrice ocSwW kVSwW dcSwW pmSwW cdSwW ctSwW ocSkL kVSkL dcSkL pmSkL cdSkL ctSkL ocWays kVWays dcWays pmWays cdWays ctWays ocEmp kVEmp dcEmp pmEmp cdEmp ctEmp ocTld kVTld dcTld pmTld cdTld ctTld ocRtab kVRtab dcRtab pmRtab cdRtab ctRtab ocCW kVCW dcCW pmCW cdCW ctCW ocFC kVFC dcFC pmFC cdFC ctFC ocLaid kVLaid dcLaid pmLaid cdLaid ctLaid ocRdf kVRdf dcRdf pmRdf cdRdf ctRdf ocNof kVNof dcNof pmNof cdNof ctNof ocCB kVCB dcCB pmCB cdCB ctCB ocOB kVOB dcOB pmOB cdOB ctOB ocHas kVHas dcHas pmHas cdHas ctHas ocIsW kVIsW dcIsW pmIsW cdIsW ctIsW ocWr kVWr dcWr pmWr cdWr ctWr ocNum kVNum dcNum pmNum cdNum ctNum ocEW kVEW dcEW pmEW cdEW ctEW ocRW kVRW dcRW pmRW cdRW ctRW ocNW kVNW dcNW pmNW cdNW ctNW ocAW kVAW dcAW pmAW cdAW ctAW ocER kVER dcER pmER cdER ctER ocESR kVESR dcESR pmESR cdESR ctESR ocNR kVNR dcNR pmNR cdNR ctNR ocPR kVPR dcPR pmPR cdPR ctPR ocRR kVRR dcRR pmRR cdRR ctRR ocNTR kVNTR dcNTR pmNTR cdNTR ctNTR ocAR kVAR dcAR pmAR cdAR ctAR ocEntry kVEntry dcEntry pmEntry cdEntry ctEntry ocGapC kVGapC dcGapC pmGapC cdGapC ctGapC ocColl kVColl dcColl pmColl cdColl ctColl ocColK kVColK dcColK pmColK cdColK ctColK ocBack kVBack dcBack pmBack cdBack ctBack ocCell kVCell dcCell pmCell cdCell ctCell ocDraw kVDraw dcDraw pmDraw cdDraw ctDraw ocWordBy kVWordBy dcWordBy pmWordBy cdWordBy ctWordBy ocPool kVPool dcPool pmPool cdPool ctPool ocRowBy kVRowBy dcRowBy pmRowBy cdRowBy ctRowBy ocCopyBy kVCopyBy dcCopyBy pmCopyBy cdCopyBy ctCopyBy ocPricesBy kVPricesBy dcPricesBy pmPricesBy cdPricesBy ctPricesBy ocSame kVSame dcSame pmSame cdSame ctSame ocScene kVScene dcScene pmScene cdScene ctScene ocLaw kVLaw dcLaw pmLaw cdLaw ctLaw:Value} {tkLIKE tkNO_ENTRY tkLETTERS tkFIGURES tkMOST_LETTERS tkMOST_PRICE tkMOST_ROWS:Tok}
  {aG aD:Addr} {nG nD:Nat} {esD:Array DictEntry} {p1 p2 q1 q2 q3 q4 q5 q6:Tok}
  (aLooks:PySem.W.nsIn K mainGlobals "looks_alike" = some (some (.ref fLooks))) (lLooks:K.lookup fLooks=some ⟨ocLooks,odLooks,.func (PySem.W.fnOf "looks_alike" "looks_alike" (defArgs sLooks) (defBody sLooks) (defScope sLooks) .none kVLooks dcLooks pmLooks anLooks cdLooks ctLooks),slLooks⟩) (cLooks:PySem.W.codeIn K cdLooks "looks_alike" = true) (kLooks:PySem.W.keepIn K (.ref fLooks)=true)
  (aSkF:PySem.W.nsIn K mainGlobals "skip_fits" = some (some (.ref fSkF))) (lSkF:K.lookup fSkF=some ⟨ocSkF,odSkF,.func (PySem.W.fnOf "skip_fits" "skip_fits" (defArgs sSkF) (defBody sSkF) (defScope sSkF) .none kVSkF dcSkF pmSkF anSkF cdSkF ctSkF),slSkF⟩) (cSkF:PySem.W.codeIn K cdSkF "skip_fits" = true) (kSkF:PySem.W.keepIn K (.ref fSkF)=true)
  (aFits:PySem.W.nsIn K mainGlobals "step_fits" = some (some (.ref fFits))) (lFits:K.lookup fFits=some ⟨ocFits,odFits,.func (PySem.W.fnOf "step_fits" "step_fits" (defArgs sFits) (defBody sFits) (defScope sFits) .none kVFits dcFits pmFits anFits cdFits ctFits),slFits⟩) (cFits:PySem.W.codeIn K cdFits "step_fits" = true) (kFits:PySem.W.keepIn K (.ref fFits)=true)
  (aWd:PySem.W.nsIn K mainGlobals "words_done" = some (some (.ref fWd))) (lWd:K.lookup fWd=some ⟨ocWd,odWd,.func (PySem.W.fnOf "words_done" "words_done" (defArgs sWd) (defBody sWd) (defScope sWd) .none kVWd dcWd pmWd anWd cdWd ctWd),slWd⟩) (cWd:PySem.W.codeIn K cdWd "words_done" = true) (kWd:PySem.W.keepIn K (.ref fWd)=true)
  (aWw:PySem.W.nsIn K mainGlobals "words_written" = some (some (.ref fWw))) (lWw:K.lookup fWw=some ⟨ocWw,odWw,.func (PySem.W.fnOf "words_written" "words_written" (defArgs sWw) (defBody sWw) (defScope sWw) .none kVWw dcWw pmWw anWw cdWw ctWw),slWw⟩) (cWw:PySem.W.codeIn K cdWw "words_written" = true) (kWw:PySem.W.keepIn K (.ref fWw)=true)
  (aAfter:PySem.W.nsIn K mainGlobals "step_after" = some (some (.ref fAfter))) (lAfter:K.lookup fAfter=some ⟨ocAfter,odAfter,.func (PySem.W.fnOf "step_after" "step_after" (defArgs sAfter) (defBody sAfter) (defScope sAfter) .none kVAfter dcAfter pmAfter anAfter cdAfter ctAfter),slAfter⟩) (cAfter:PySem.W.codeIn K cdAfter "step_after" = true) (kAfter:PySem.W.keepIn K (.ref fAfter)=true)
  (aPrice:PySem.W.nsIn K mainGlobals "step_price" = some (some (.ref fPrice))) (lPrice:K.lookup fPrice=some ⟨ocPrice,odPrice,.func (PySem.W.fnOf "step_price" "step_price" (defArgs sPrice) (defBody sPrice) (defScope sPrice) .none kVPrice dcPrice pmPrice anPrice cdPrice ctPrice),slPrice⟩) (cPrice:PySem.W.codeIn K cdPrice "step_price" = true) (kPrice:PySem.W.keepIn K (.ref fPrice)=true)
  (aSwW:PySem.W.nsIn K mainGlobals "swap_writes" = some (some (.ref fSwW))) (lSwW:K.lookup fSwW=some ⟨ocSwW,odSwW,.func (PySem.W.fnOf "swap_writes" "swap_writes" (defArgs sSwW) (defBody sSwW) (defScope sSwW) .none kVSwW dcSwW pmSwW anSwW cdSwW ctSwW),slSwW⟩) (cSwW:PySem.W.codeIn K cdSwW "swap_writes" = true) (kSwW:PySem.W.keepIn K (.ref fSwW)=true)
  (aSkL:PySem.W.nsIn K mainGlobals "skip_lengths" = some (some (.ref fSkL))) (lSkL:K.lookup fSkL=some ⟨ocSkL,odSkL,.func (PySem.W.fnOf "skip_lengths" "skip_lengths" (defArgs sSkL) (defBody sSkL) (defScope sSkL) .none kVSkL dcSkL pmSkL anSkL cdSkL ctSkL),slSkL⟩) (cSkL:PySem.W.codeIn K cdSkL "skip_lengths" = true) (kSkL:PySem.W.keepIn K (.ref fSkL)=true)
  (aWays:PySem.W.nsIn K mainGlobals "knot_ways" = some (some (.ref fWays))) (lWays:K.lookup fWays=some ⟨ocWays,odWays,.func (PySem.W.fnOf "knot_ways" "knot_ways" (defArgs sWays) (defBody sWays) (defScope sWays) .none kVWays dcWays pmWays anWays cdWays ctWays),slWays⟩) (cWays:PySem.W.codeIn K cdWays "knot_ways" = true) (kWays:PySem.W.keepIn K (.ref fWays)=true)
  (aEmp:PySem.W.nsIn K mainGlobals "empty_table" = some (some (.ref fEmp))) (lEmp:K.lookup fEmp=some ⟨ocEmp,odEmp,.func (PySem.W.fnOf "empty_table" "empty_table" (defArgs sEmp) (defBody sEmp) (defScope sEmp) .none kVEmp dcEmp pmEmp anEmp cdEmp ctEmp),slEmp⟩) (cEmp:PySem.W.codeIn K cdEmp "empty_table" = true) (kEmp:PySem.W.keepIn K (.ref fEmp)=true)
  (aTld:PySem.W.nsIn K mainGlobals "table_told" = some (some (.ref fTld))) (lTld:K.lookup fTld=some ⟨ocTld,odTld,.func (PySem.W.fnOf "table_told" "table_told" (defArgs sTld) (defBody sTld) (defScope sTld) .none kVTld dcTld pmTld anTld cdTld ctTld),slTld⟩) (cTld:PySem.W.codeIn K cdTld "table_told" = true) (kTld:PySem.W.keepIn K (.ref fTld)=true)
  (aRtab:PySem.W.nsIn K mainGlobals "rest_table" = some (some (.ref fRtab))) (lRtab:K.lookup fRtab=some ⟨ocRtab,odRtab,.func (PySem.W.fnOf "rest_table" "rest_table" (defArgs sRtab) (defBody sRtab) (defScope sRtab) .none kVRtab dcRtab pmRtab anRtab cdRtab ctRtab),slRtab⟩) (cRtab:PySem.W.codeIn K cdRtab "rest_table" = true) (kRtab:PySem.W.keepIn K (.ref fRtab)=true)
  (aCW:PySem.W.nsIn K mainGlobals "cheapest_ways" = some (some (.ref fCW))) (lCW:K.lookup fCW=some ⟨ocCW,odCW,.func (PySem.W.fnOf "cheapest_ways" "cheapest_ways" (defArgs sCW) (defBody sCW) (defScope sCW) .none kVCW dcCW pmCW anCW cdCW ctCW),slCW⟩) (cCW:PySem.W.codeIn K cdCW "cheapest_ways" = true) (kCW:PySem.W.keepIn K (.ref fCW)=true)
  (aFC:PySem.W.nsIn K mainGlobals "first_cheapest" = some (some (.ref fFC))) (lFC:K.lookup fFC=some ⟨ocFC,odFC,.func (PySem.W.fnOf "first_cheapest" "first_cheapest" (defArgs sFC) (defBody sFC) (defScope sFC) .none kVFC dcFC pmFC anFC cdFC ctFC),slFC⟩) (cFC:PySem.W.codeIn K cdFC "first_cheapest" = true) (kFC:PySem.W.keepIn K (.ref fFC)=true)
  (aLaid:PySem.W.nsIn K mainGlobals "laid_words" = some (some (.ref fLaid))) (lLaid:K.lookup fLaid=some ⟨ocLaid,odLaid,.func (PySem.W.fnOf "laid_words" "laid_words" (defArgs sLaid) (defBody sLaid) (defScope sLaid) .none kVLaid dcLaid pmLaid anLaid cdLaid ctLaid),slLaid⟩) (cLaid:PySem.W.codeIn K cdLaid "laid_words" = true) (kLaid:PySem.W.keepIn K (.ref fLaid)=true)
  (aRdf:PySem.W.nsIn K mainGlobals "readings_of" = some (some (.ref fRdf))) (lRdf:K.lookup fRdf=some ⟨ocRdf,odRdf,.func (PySem.W.fnOf "readings_of" "readings_of" (defArgs sRdf) (defBody sRdf) (defScope sRdf) .none kVRdf dcRdf pmRdf anRdf cdRdf ctRdf),slRdf⟩) (cRdf:PySem.W.codeIn K cdRdf "readings_of" = true) (kRdf:PySem.W.keepIn K (.ref fRdf)=true)
  (aNof:PySem.W.nsIn K mainGlobals "notes_of" = some (some (.ref fNof))) (lNof:K.lookup fNof=some ⟨ocNof,odNof,.func (PySem.W.fnOf "notes_of" "notes_of" (defArgs sNof) (defBody sNof) (defScope sNof) .none kVNof dcNof pmNof anNof cdNof ctNof),slNof⟩) (cNof:PySem.W.codeIn K cdNof "notes_of" = true) (kNof:PySem.W.keepIn K (.ref fNof)=true)
  (aCB:PySem.W.nsIn K mainGlobals "column_back" = some (some (.ref fCB))) (lCB:K.lookup fCB=some ⟨ocCB,odCB,.func (PySem.W.fnOf "column_back" "column_back" (defArgs sCB) (defBody sCB) (defScope sCB) .none kVCB dcCB pmCB anCB cdCB ctCB),slCB⟩) (cCB:PySem.W.codeIn K cdCB "column_back" = true) (kCB:PySem.W.keepIn K (.ref fCB)=true)
  (aOB:PySem.W.nsIn K mainGlobals "collation_back" = some (some (.ref fOB))) (lOB:K.lookup fOB=some ⟨ocOB,odOB,.func (PySem.W.fnOf "collation_back" "collation_back" (defArgs sOB) (defBody sOB) (defScope sOB) .none kVOB dcOB pmOB anOB cdOB ctOB),slOB⟩) (cOB:PySem.W.codeIn K cdOB "collation_back" = true) (kOB:PySem.W.keepIn K (.ref fOB)=true)
  (aHas:PySem.W.nsIn K mainGlobals "has_only" = some (some (.ref fHas))) (lHas:K.lookup fHas=some ⟨ocHas,odHas,.func (PySem.W.fnOf "has_only" "has_only" (defArgs sHas) (defBody sHas) (defScope sHas) .none kVHas dcHas pmHas anHas cdHas ctHas),slHas⟩) (cHas:PySem.W.codeIn K cdHas "has_only" = true) (kHas:PySem.W.keepIn K (.ref fHas)=true)
  (aIsW:PySem.W.nsIn K mainGlobals "is_word" = some (some (.ref fIsW))) (lIsW:K.lookup fIsW=some ⟨ocIsW,odIsW,.func (PySem.W.fnOf "is_word" "is_word" (defArgs sIsW) (defBody sIsW) (defScope sIsW) .none kVIsW dcIsW pmIsW anIsW cdIsW ctIsW),slIsW⟩) (cIsW:PySem.W.codeIn K cdIsW "is_word" = true) (kIsW:PySem.W.keepIn K (.ref fIsW)=true)
  (aWr:PySem.W.nsIn K mainGlobals "writes_number" = some (some (.ref fWr))) (lWr:K.lookup fWr=some ⟨ocWr,odWr,.func (PySem.W.fnOf "writes_number" "writes_number" (defArgs sWr) (defBody sWr) (defScope sWr) .none kVWr dcWr pmWr anWr cdWr ctWr),slWr⟩) (cWr:PySem.W.codeIn K cdWr "writes_number" = true) (kWr:PySem.W.keepIn K (.ref fWr)=true)
  (aNum:PySem.W.nsIn K mainGlobals "number_of" = some (some (.ref fNum))) (lNum:K.lookup fNum=some ⟨ocNum,odNum,.func (PySem.W.fnOf "number_of" "number_of" (defArgs sNum) (defBody sNum) (defScope sNum) .none kVNum dcNum pmNum anNum cdNum ctNum),slNum⟩) (cNum:PySem.W.codeIn K cdNum "number_of" = true) (kNum:PySem.W.keepIn K (.ref fNum)=true)
  (aEW:PySem.W.nsIn K mainGlobals "entry_written" = some (some (.ref fEW))) (lEW:K.lookup fEW=some ⟨ocEW,odEW,.func (PySem.W.fnOf "entry_written" "entry_written" (defArgs sEW) (defBody sEW) (defScope sEW) .none kVEW dcEW pmEW anEW cdEW ctEW),slEW⟩) (cEW:PySem.W.codeIn K cdEW "entry_written" = true) (kEW:PySem.W.keepIn K (.ref fEW)=true)
  (aRW:PySem.W.nsIn K mainGlobals "reading_written" = some (some (.ref fRW))) (lRW:K.lookup fRW=some ⟨ocRW,odRW,.func (PySem.W.fnOf "reading_written" "reading_written" (defArgs sRW) (defBody sRW) (defScope sRW) .none kVRW dcRW pmRW anRW cdRW ctRW),slRW⟩) (cRW:PySem.W.codeIn K cdRW "reading_written" = true) (kRW:PySem.W.keepIn K (.ref fRW)=true)
  (aNW:PySem.W.nsIn K mainGlobals "note_written" = some (some (.ref fNW))) (lNW:K.lookup fNW=some ⟨ocNW,odNW,.func (PySem.W.fnOf "note_written" "note_written" (defArgs sNW) (defBody sNW) (defScope sNW) .none kVNW dcNW pmNW anNW cdNW ctNW),slNW⟩) (cNW:PySem.W.codeIn K cdNW "note_written" = true) (kNW:PySem.W.keepIn K (.ref fNW)=true)
  (aAW:PySem.W.nsIn K mainGlobals "apparatus_written" = some (some (.ref fAW))) (lAW:K.lookup fAW=some ⟨ocAW,odAW,.func (PySem.W.fnOf "apparatus_written" "apparatus_written" (defArgs sAW) (defBody sAW) (defScope sAW) .none kVAW dcAW pmAW anAW cdAW ctAW),slAW⟩) (cAW:PySem.W.codeIn K cdAW "apparatus_written" = true) (kAW:PySem.W.keepIn K (.ref fAW)=true)
  (aER:PySem.W.nsIn K mainGlobals "entry_read" = some (some (.ref fER))) (lER:K.lookup fER=some ⟨ocER,odER,.func (PySem.W.fnOf "entry_read" "entry_read" (defArgs sER) (defBody sER) (defScope sER) .none kVER dcER pmER anER cdER ctER),slER⟩) (cER:PySem.W.codeIn K cdER "entry_read" = true) (kER:PySem.W.keepIn K (.ref fER)=true)
  (aESR:PySem.W.nsIn K mainGlobals "entries_read" = some (some (.ref fESR))) (lESR:K.lookup fESR=some ⟨ocESR,odESR,.func (PySem.W.fnOf "entries_read" "entries_read" (defArgs sESR) (defBody sESR) (defScope sESR) .none kVESR dcESR pmESR anESR cdESR ctESR),slESR⟩) (cESR:PySem.W.codeIn K cdESR "entries_read" = true) (kESR:PySem.W.keepIn K (.ref fESR)=true)
  (aNR:PySem.W.nsIn K mainGlobals "number_read" = some (some (.ref fNR))) (lNR:K.lookup fNR=some ⟨ocNR,odNR,.func (PySem.W.fnOf "number_read" "number_read" (defArgs sNR) (defBody sNR) (defScope sNR) .none kVNR dcNR pmNR anNR cdNR ctNR),slNR⟩) (cNR:PySem.W.codeIn K cdNR "number_read" = true) (kNR:PySem.W.keepIn K (.ref fNR)=true)
  (aPR:PySem.W.nsIn K mainGlobals "parts_read" = some (some (.ref fPR))) (lPR:K.lookup fPR=some ⟨ocPR,odPR,.func (PySem.W.fnOf "parts_read" "parts_read" (defArgs sPR) (defBody sPR) (defScope sPR) .none kVPR dcPR pmPR anPR cdPR ctPR),slPR⟩) (cPR:PySem.W.codeIn K cdPR "parts_read" = true) (kPR:PySem.W.keepIn K (.ref fPR)=true)
  (aRR:PySem.W.nsIn K mainGlobals "reading_read" = some (some (.ref fRR))) (lRR:K.lookup fRR=some ⟨ocRR,odRR,.func (PySem.W.fnOf "reading_read" "reading_read" (defArgs sRR) (defBody sRR) (defScope sRR) .none kVRR dcRR pmRR anRR cdRR ctRR),slRR⟩) (cRR:PySem.W.codeIn K cdRR "reading_read" = true) (kRR:PySem.W.keepIn K (.ref fRR)=true)
  (aNTR:PySem.W.nsIn K mainGlobals "note_read" = some (some (.ref fNTR))) (lNTR:K.lookup fNTR=some ⟨ocNTR,odNTR,.func (PySem.W.fnOf "note_read" "note_read" (defArgs sNTR) (defBody sNTR) (defScope sNTR) .none kVNTR dcNTR pmNTR anNTR cdNTR ctNTR),slNTR⟩) (cNTR:PySem.W.codeIn K cdNTR "note_read" = true) (kNTR:PySem.W.keepIn K (.ref fNTR)=true)
  (aAR:PySem.W.nsIn K mainGlobals "apparatus_read" = some (some (.ref fAR))) (lAR:K.lookup fAR=some ⟨ocAR,odAR,.func (PySem.W.fnOf "apparatus_read" "apparatus_read" (defArgs sAR) (defBody sAR) (defScope sAR) .none kVAR dcAR pmAR anAR cdAR ctAR),slAR⟩) (cAR:PySem.W.codeIn K cdAR "apparatus_read" = true) (kAR:PySem.W.keepIn K (.ref fAR)=true)
  (aEntry:PySem.W.nsIn K mainGlobals "entry_at" = some (some (.ref fEntry))) (lEntry:K.lookup fEntry=some ⟨ocEntry,odEntry,.func (PySem.W.fnOf "entry_at" "entry_at" (defArgs sEntry) (defBody sEntry) (defScope sEntry) .none kVEntry dcEntry pmEntry anEntry cdEntry ctEntry),slEntry⟩) (cEntry:PySem.W.codeIn K cdEntry "entry_at" = true) (kEntry:PySem.W.keepIn K (.ref fEntry)=true)
  (aGapC:PySem.W.nsIn K mainGlobals "gap_columns" = some (some (.ref fGapC))) (lGapC:K.lookup fGapC=some ⟨ocGapC,odGapC,.func (PySem.W.fnOf "gap_columns" "gap_columns" (defArgs sGapC) (defBody sGapC) (defScope sGapC) .none kVGapC dcGapC pmGapC anGapC cdGapC ctGapC),slGapC⟩) (cGapC:PySem.W.codeIn K cdGapC "gap_columns" = true) (kGapC:PySem.W.keepIn K (.ref fGapC)=true)
  (aColl:PySem.W.nsIn K mainGlobals "collated" = some (some (.ref fColl))) (lColl:K.lookup fColl=some ⟨ocColl,odColl,.func (PySem.W.fnOf "collated" "collated" (defArgs sColl) (defBody sColl) (defScope sColl) .none kVColl dcColl pmColl anColl cdColl ctColl),slColl⟩) (cColl:PySem.W.codeIn K cdColl "collated" = true) (kColl:PySem.W.keepIn K (.ref fColl)=true)
  (aColK:PySem.W.nsIn K mainGlobals "column_kinds" = some (some (.ref fColK))) (lColK:K.lookup fColK=some ⟨ocColK,odColK,.func (PySem.W.fnOf "column_kinds" "column_kinds" (defArgs sColK) (defBody sColK) (defScope sColK) .none kVColK dcColK pmColK anColK cdColK ctColK),slColK⟩) (cColK:PySem.W.codeIn K cdColK "column_kinds" = true) (kColK:PySem.W.keepIn K (.ref fColK)=true)
  (aBack:PySem.W.nsIn K mainGlobals "row_back" = some (some (.ref fBack))) (lBack:K.lookup fBack=some ⟨ocBack,odBack,.func (PySem.W.fnOf "row_back" "row_back" (defArgs sBack) (defBody sBack) (defScope sBack) .none kVBack dcBack pmBack anBack cdBack ctBack),slBack⟩) (cBack:PySem.W.codeIn K cdBack "row_back" = true) (kBack:PySem.W.keepIn K (.ref fBack)=true)
  (aCell:PySem.W.nsIn K mainGlobals "_law_cell_at" = some (some (.ref fCell))) (lCell:K.lookup fCell=some ⟨ocCell,odCell,.func (PySem.W.fnOf "_law_cell_at" "_law_cell_at" (defArgs sCell) (defBody sCell) (defScope sCell) .none kVCell dcCell pmCell anCell cdCell ctCell),slCell⟩) (cCell:PySem.W.codeIn K cdCell "_law_cell_at" = true) (kCell:PySem.W.keepIn K (.ref fCell)=true)
  (aDraw:PySem.W.nsIn K mainGlobals "_law_draw" = some (some (.ref fDraw))) (lDraw:K.lookup fDraw=some ⟨ocDraw,odDraw,.func (PySem.W.fnOf "_law_draw" "_law_draw" (defArgs sDraw) (defBody sDraw) (defScope sDraw) .none kVDraw dcDraw pmDraw anDraw cdDraw ctDraw),slDraw⟩) (cDraw:PySem.W.codeIn K cdDraw "_law_draw" = true) (kDraw:PySem.W.keepIn K (.ref fDraw)=true)
  (aWordBy:PySem.W.nsIn K mainGlobals "_law_word_by" = some (some (.ref fWordBy))) (lWordBy:K.lookup fWordBy=some ⟨ocWordBy,odWordBy,.func (PySem.W.fnOf "_law_word_by" "_law_word_by" (defArgs sWordBy) (defBody sWordBy) (defScope sWordBy) .none kVWordBy dcWordBy pmWordBy anWordBy cdWordBy ctWordBy),slWordBy⟩) (cWordBy:PySem.W.codeIn K cdWordBy "_law_word_by" = true) (kWordBy:PySem.W.keepIn K (.ref fWordBy)=true)
  (aPool:PySem.W.nsIn K mainGlobals "_law_pool" = some (some (.ref fPool))) (lPool:K.lookup fPool=some ⟨ocPool,odPool,.func (PySem.W.fnOf "_law_pool" "_law_pool" (defArgs sPool) (defBody sPool) (defScope sPool) .none kVPool dcPool pmPool anPool cdPool ctPool),slPool⟩) (cPool:PySem.W.codeIn K cdPool "_law_pool" = true) (kPool:PySem.W.keepIn K (.ref fPool)=true)
  (aRowBy:PySem.W.nsIn K mainGlobals "_law_row_by" = some (some (.ref fRowBy))) (lRowBy:K.lookup fRowBy=some ⟨ocRowBy,odRowBy,.func (PySem.W.fnOf "_law_row_by" "_law_row_by" (defArgs sRowBy) (defBody sRowBy) (defScope sRowBy) .none kVRowBy dcRowBy pmRowBy anRowBy cdRowBy ctRowBy),slRowBy⟩) (cRowBy:PySem.W.codeIn K cdRowBy "_law_row_by" = true) (kRowBy:PySem.W.keepIn K (.ref fRowBy)=true)
  (aCopyBy:PySem.W.nsIn K mainGlobals "_law_copy_by" = some (some (.ref fCopyBy))) (lCopyBy:K.lookup fCopyBy=some ⟨ocCopyBy,odCopyBy,.func (PySem.W.fnOf "_law_copy_by" "_law_copy_by" (defArgs sCopyBy) (defBody sCopyBy) (defScope sCopyBy) .none kVCopyBy dcCopyBy pmCopyBy anCopyBy cdCopyBy ctCopyBy),slCopyBy⟩) (cCopyBy:PySem.W.codeIn K cdCopyBy "_law_copy_by" = true) (kCopyBy:PySem.W.keepIn K (.ref fCopyBy)=true)
  (aPricesBy:PySem.W.nsIn K mainGlobals "_law_prices_by" = some (some (.ref fPricesBy))) (lPricesBy:K.lookup fPricesBy=some ⟨ocPricesBy,odPricesBy,.func (PySem.W.fnOf "_law_prices_by" "_law_prices_by" (defArgs sPricesBy) (defBody sPricesBy) (defScope sPricesBy) .none kVPricesBy dcPricesBy pmPricesBy anPricesBy cdPricesBy ctPricesBy),slPricesBy⟩) (cPricesBy:PySem.W.codeIn K cdPricesBy "_law_prices_by" = true) (kPricesBy:PySem.W.keepIn K (.ref fPricesBy)=true)
  (aSame:PySem.W.nsIn K mainGlobals "_law_same" = some (some (.ref fSame))) (lSame:K.lookup fSame=some ⟨ocSame,odSame,.func (PySem.W.fnOf "_law_same" "_law_same" (defArgs sSame) (defBody sSame) (defScope sSame) .none kVSame dcSame pmSame anSame cdSame ctSame),slSame⟩) (cSame:PySem.W.codeIn K cdSame "_law_same" = true) (kSame:PySem.W.keepIn K (.ref fSame)=true)
  (aScene:PySem.W.nsIn K mainGlobals "_law_scene" = some (some (.ref fScene))) (lScene:K.lookup fScene=some ⟨ocScene,odScene,.func (PySem.W.fnOf "_law_scene" "_law_scene" (defArgs sScene) (defBody sScene) (defScope sScene) .none kVScene dcScene pmScene anScene cdScene ctScene),slScene⟩) (cScene:PySem.W.codeIn K cdScene "_law_scene" = true) (kScene:PySem.W.keepIn K (.ref fScene)=true)
  (aLaw:PySem.W.nsIn K mainGlobals "law" = some (some (.ref fLaw))) (lLaw:K.lookup fLaw=some ⟨ocLaw,odLaw,.func (PySem.W.fnOf "law" "law" (defArgs sLaw) (defBody sLaw) (defScope sLaw) .none kVLaw dcLaw pmLaw anLaw cdLaw ctLaw),slLaw⟩) (cLaw:PySem.W.codeIn K cdLaw "law" = true) (kLaw:PySem.W.keepIn K (.ref fLaw)=true)
  (gLIKE:PySem.W.nsIn K mainGlobals "LIKE" = some (some (.int 0 tkLIKE)))
  (gPRICE_PLACES:PySem.W.nsIn K mainGlobals "PRICE_PLACES" = some (some (.ref aD)))
  (gGAP_KINDS:PySem.W.nsIn K mainGlobals "GAP_KINDS" = some (some (.ref aG)))
  (gNoSlips:PySem.W.nsIn K mainGlobals "NoSlips" = some (some (.ref CNoSlips)))
  (gNO_ENTRY:PySem.W.nsIn K mainGlobals "NO_ENTRY" = some (some (.str (Str.ofString "-") tkNO_ENTRY)))
  (gLETTERS:PySem.W.nsIn K mainGlobals "LETTERS" = some (some (.str (Str.ofString "abcdefghijklmnopqrstuvwxyz") tkLETTERS)))
  (gFIGURES:PySem.W.nsIn K mainGlobals "FIGURES" = some (some (.str (Str.ofString "0123456789") tkFIGURES)))
  (gMOST_LETTERS:PySem.W.nsIn K mainGlobals "MOST_LETTERS" = some (some (.int 12 tkMOST_LETTERS)))
  (gMOST_PRICE:PySem.W.nsIn K mainGlobals "MOST_PRICE" = some (some (.int 1000000000000000000000000000000 tkMOST_PRICE)))
  (gMOST_ROWS:PySem.W.nsIn K mainGlobals "MOST_ROWS" = some (some (.int 30 tkMOST_ROWS)))
  (ball:PySem.W.nsIn K mainGlobals "all" = some none)
  (blen:PySem.W.nsIn K mainGlobals "len" = some none)
  (brange:PySem.W.nsIn K mainGlobals "range" = some none)
  (bisinstance:PySem.W.nsIn K mainGlobals "isinstance" = some none)
  (btuple:PySem.W.nsIn K mainGlobals "tuple" = some none)
  (bstr:PySem.W.nsIn K mainGlobals "str" = some none)
  (bint:PySem.W.nsIn K mainGlobals "int" = some none)
  (bbool:PySem.W.nsIn K mainGlobals "bool" = some none)
  (bmin:PySem.W.nsIn K mainGlobals "min" = some none)
  (benumerate:PySem.W.nsIn K mainGlobals "enumerate" = some none)
  (bmax:PySem.W.nsIn K mainGlobals "max" = some none)
  (blist:PySem.W.nsIn K mainGlobals "list" = some none)
  (vNoSlips:PySem.W.excIn K CNoSlips [Value.type "ValueError",Value.type "Exception",Value.type "BaseException",Value.type "object"] "ValueError.__new__" = true)
  (tG:K.lookup aG=some ⟨.type "tuple",none,.seq #[.str (Str.ofString "add") p1,.str (Str.ofString "twice") p2] nG,#[]⟩)
  (j1:PySem.W.kitOne K (.type "str") (.type "tuple")=some false)
  (j2:PySem.W.kitOne K (.type "int") (.type "tuple")=some false)
  (j3:PySem.W.kitOne K (.type "int") (.type "str")=some false)
  (i6:PySem.W.kitOne K (.type "int") (.type "bool")=some false)
  (j4:PySem.W.kitOne K (.type "NoneType") (.type "tuple")=some false)
  (dl:K.lookup aD=some ⟨.type "dict",none,.dict esD nD,#[]⟩)
  (dk:PySem.W.KeysLit w.params esD.toList)
  (d1:PySem.W.nsIn K aD "turn" = some (some (.int 1 q1)))
  (d2:PySem.W.nsIn K aD "lose" = some (some (.int 2 q2)))
  (d3:PySem.W.nsIn K aD "add" = some (some (.int 3 q3)))
  (d4:PySem.W.nsIn K aD "twice" = some (some (.int 4 q4)))
  (d5:PySem.W.nsIn K aD "swap" = some (some (.int 5 q5)))
  (d6:PySem.W.nsIn K aD "skip" = some (some (.int 6 q6)))
  : ∃ fd:FuncData,(∀ (s:Shared) (v:Value),BindsTo s fd ⟨[v],[]⟩ [("script",v)])/\∀ base:Heap,K.In base->base.Ns mainGlobals mg->FnOk l.prog w K mg base CX0 10 fa fd ["script"] (spLaw K):=by
 have e:=hfa.symm.trans (PySem.W.mg_of X G aLaw)
 cases e
 have FLooks:=fun_mk (st:=sLooks) lLooks cLooks kLooks
 have b_Looks:=FLooks.binds (ps:=["one","two"]) fun _ _ _ _ _ _ us hl=>match us,hl with | [_,_],_=>rfl
 have DLooks:Dfn K mg "looks_alike" sLooks fLooks _ ["one","two"]:=⟨FLooks,PySem.W.mg_of X G aLooks,b_Looks⟩
 have FSkF:=fun_mk (st:=sSkF) lSkF cSkF kSkF
 have b_SkF:=FSkF.binds (ps:=["elder","done","many"]) fun _ _ _ _ _ _ us hl=>match us,hl with | [_,_,_],_=>rfl
 have DSkF:Dfn K mg "skip_fits" sSkF fSkF _ ["elder","done","many"]:=⟨FSkF,PySem.W.mg_of X G aSkF,b_SkF⟩
 have FFits:=fun_mk (st:=sFits) lFits cFits kFits
 have b_Fits:=FFits.binds (ps:=["elder","done","last","step"]) fun _ _ _ _ _ _ us hl=>match us,hl with | [_,_,_,_],_=>rfl
 have DFits:Dfn K mg "step_fits" sFits fFits _ ["elder","done","last","step"]:=⟨FFits,PySem.W.mg_of X G aFits,b_Fits⟩
 have FWd:=fun_mk (st:=sWd) lWd cWd kWd
 have b_Wd:=FWd.binds (ps:=["step"]) fun _ _ _ _ _ _ us hl=>match us,hl with | [_],_=>rfl
 have DWd:Dfn K mg "words_done" sWd fWd _ ["step"]:=⟨FWd,PySem.W.mg_of X G aWd,b_Wd⟩
 have FWw:=fun_mk (st:=sWw) lWw cWw kWw
 have b_Ww:=FWw.binds (ps:=["elder","done","last","step"]) fun _ _ _ _ _ _ us hl=>match us,hl with | [_,_,_,_],_=>rfl
 have DWw:Dfn K mg "words_written" sWw fWw _ ["elder","done","last","step"]:=⟨FWw,PySem.W.mg_of X G aWw,b_Ww⟩
 have FAfter:=fun_mk (st:=sAfter) lAfter cAfter kAfter
 have b_After:=FAfter.binds (ps:=["elder","done","last","step"]) fun _ _ _ _ _ _ us hl=>match us,hl with | [_,_,_,_],_=>rfl
 have DAfter:Dfn K mg "step_after" sAfter fAfter _ ["elder","done","last","step"]:=⟨FAfter,PySem.W.mg_of X G aAfter,b_After⟩
 have FPrice:=fun_mk (st:=sPrice) lPrice cPrice kPrice
 have b_Price:=FPrice.binds (ps:=["elder","done","step","prices"]) fun _ _ _ _ _ _ us hl=>match us,hl with | [_,_,_,_],_=>rfl
 have DPrice:Dfn K mg "step_price" sPrice fPrice _ ["elder","done","step","prices"]:=⟨FPrice,PySem.W.mg_of X G aPrice,b_Price⟩
 have FSwW:=fun_mk (st:=sSwW) lSwW cSwW kSwW
 have b_SwW:=FSwW.binds (ps:=["elder","copy","i","j"]) fun _ _ _ _ _ _ us hl=>match us,hl with | [_,_,_,_],_=>rfl
 have DSwW:Dfn K mg "swap_writes" sSwW fSwW _ ["elder","copy","i","j"]:=⟨FSwW,PySem.W.mg_of X G aSwW,b_SwW⟩
 have FSkL:=fun_mk (st:=sSkL) lSkL cSkL kSkL
 have b_SkL:=FSkL.binds (ps:=["elder","i"]) fun _ _ _ _ _ _ us hl=>match us,hl with | [_,_],_=>rfl
 have DSkL:Dfn K mg "skip_lengths" sSkL fSkL _ ["elder","i"]:=⟨FSkL,PySem.W.mg_of X G aSkL,b_SkL⟩
 have FWays:=fun_mk (st:=sWays) lWays cWays kWays
 have b_Ways:=FWays.binds (ps:=["elder","copy","i","j"]) fun _ _ _ _ _ _ us hl=>match us,hl with | [_,_,_,_],_=>rfl
 have DWays:Dfn K mg "knot_ways" sWays fWays _ ["elder","copy","i","j"]:=⟨FWays,PySem.W.mg_of X G aWays,b_Ways⟩
 have FEmp:=fun_mk (st:=sEmp) lEmp cEmp kEmp
 have b_Emp:=FEmp.binds (ps:=["elder","copy"]) fun _ _ _ _ _ _ us hl=>match us,hl with | [_,_],_=>rfl
 have DEmp:Dfn K mg "empty_table" sEmp fEmp _ ["elder","copy"]:=⟨FEmp,PySem.W.mg_of X G aEmp,b_Emp⟩
 have FTld:=fun_mk (st:=sTld) lTld cTld kTld
 have b_Tld:=FTld.binds (ps:=["table"]) fun _ _ _ _ _ _ us hl=>match us,hl with | [_],_=>rfl
 have DTld:Dfn K mg "table_told" sTld fTld _ ["table"]:=⟨FTld,PySem.W.mg_of X G aTld,b_Tld⟩
 have FRtab:=fun_mk (st:=sRtab) lRtab cRtab kRtab
 have b_Rtab:=FRtab.binds (ps:=["elder","copy","prices"]) fun _ _ _ _ _ _ us hl=>match us,hl with | [_,_,_],_=>rfl
 have DRtab:Dfn K mg "rest_table" sRtab fRtab _ ["elder","copy","prices"]:=⟨FRtab,PySem.W.mg_of X G aRtab,b_Rtab⟩
 have FCW:=fun_mk (st:=sCW) lCW cCW kCW
 have b_CW:=FCW.binds (ps:=["elder","copy","prices","rest","i","j"]) fun _ _ _ _ _ _ us hl=>match us,hl with | [_,_,_,_,_,_],_=>rfl
 have DCW:Dfn K mg "cheapest_ways" sCW fCW _ ["elder","copy","prices","rest","i","j"]:=⟨FCW,PySem.W.mg_of X G aCW,b_CW⟩
 have FFC:=fun_mk (st:=sFC) lFC cFC kFC
 have b_FC:=FFC.binds (ps:=["elder","copy","prices"]) fun _ _ _ _ _ _ us hl=>match us,hl with | [_,_,_],_=>rfl
 have DFC:Dfn K mg "first_cheapest" sFC fFC _ ["elder","copy","prices"]:=⟨FFC,PySem.W.mg_of X G aFC,b_FC⟩
 have FLaid:=fun_mk (st:=sLaid) lLaid cLaid kLaid
 have b_Laid:=FLaid.binds (ps:=["base","copy","prices"]) fun _ _ _ _ _ _ us hl=>match us,hl with | [_,_,_],_=>rfl
 have DLaid:Dfn K mg "laid_words" sLaid fLaid _ ["base","copy","prices"]:=⟨FLaid,PySem.W.mg_of X G aLaid,b_Laid⟩
 have FRdf:=fun_mk (st:=sRdf) lRdf cRdf kRdf
 have b_Rdf:=FRdf.binds (ps:=["column"]) fun _ _ _ _ _ _ us hl=>match us,hl with | [_],_=>rfl
 have DRdf:Dfn K mg "readings_of" sRdf fRdf _ ["column"]:=⟨FRdf,PySem.W.mg_of X G aRdf,b_Rdf⟩
 have FNof:=fun_mk (st:=sNof) lNof cNof kNof
 have b_Nof:=FNof.binds (ps:=["collation"]) fun _ _ _ _ _ _ us hl=>match us,hl with | [_],_=>rfl
 have DNof:Dfn K mg "notes_of" sNof fNof _ ["collation"]:=⟨FNof,PySem.W.mg_of X G aNof,b_Nof⟩
 have FCB:=fun_mk (st:=sCB) lCB cCB kCB
 have b_CB:=FCB.binds (ps:=["entry","many","readings"]) fun _ _ _ _ _ _ us hl=>match us,hl with | [_,_,_],_=>rfl
 have DCB:Dfn K mg "column_back" sCB fCB _ ["entry","many","readings"]:=⟨FCB,PySem.W.mg_of X G aCB,b_CB⟩
 have FOB:=fun_mk (st:=sOB) lOB cOB kOB
 have b_OB:=FOB.binds (ps:=["entries","many","notes"]) fun _ _ _ _ _ _ us hl=>match us,hl with | [_,_,_],_=>rfl
 have DOB:Dfn K mg "collation_back" sOB fOB _ ["entries","many","notes"]:=⟨FOB,PySem.W.mg_of X G aOB,b_OB⟩
 have FHas:=fun_mk (st:=sHas) lHas cHas kHas
 have b_Has:=FHas.binds (ps:=["text","signs"]) fun _ _ _ _ _ _ us hl=>match us,hl with | [_,_],_=>rfl
 have DHas:Dfn K mg "has_only" sHas fHas _ ["text","signs"]:=⟨FHas,PySem.W.mg_of X G aHas,b_Has⟩
 have FIsW:=fun_mk (st:=sIsW) lIsW cIsW kIsW
 have b_IsW:=FIsW.binds (ps:=["text"]) fun _ _ _ _ _ _ us hl=>match us,hl with | [_],_=>rfl
 have DIsW:Dfn K mg "is_word" sIsW fIsW _ ["text"]:=⟨FIsW,PySem.W.mg_of X G aIsW,b_IsW⟩
 have FWr:=fun_mk (st:=sWr) lWr cWr kWr
 have b_Wr:=FWr.binds (ps:=["text"]) fun _ _ _ _ _ _ us hl=>match us,hl with | [_],_=>rfl
 have DWr:Dfn K mg "writes_number" sWr fWr _ ["text"]:=⟨FWr,PySem.W.mg_of X G aWr,b_Wr⟩
 have FNum:=fun_mk (st:=sNum) lNum cNum kNum
 have b_Num:=FNum.binds (ps:=["text","most"]) fun _ _ _ _ _ _ us hl=>match us,hl with | [_,_],_=>rfl
 have DNum:Dfn K mg "number_of" sNum fNum _ ["text","most"]:=⟨FNum,PySem.W.mg_of X G aNum,b_Num⟩
 have FEW:=fun_mk (st:=sEW) lEW cEW kEW
 have b_EW:=FEW.binds (ps:=["entry"]) fun _ _ _ _ _ _ us hl=>match us,hl with | [_],_=>rfl
 have DEW:Dfn K mg "entry_written" sEW fEW _ ["entry"]:=⟨FEW,PySem.W.mg_of X G aEW,b_EW⟩
 have FRW:=fun_mk (st:=sRW) lRW cRW kRW
 have b_RW:=FRW.binds (ps:=["entry","rows"]) fun _ _ _ _ _ _ us hl=>match us,hl with | [_,_],_=>rfl
 have DRW:Dfn K mg "reading_written" sRW fRW _ ["entry","rows"]:=⟨FRW,PySem.W.mg_of X G aRW,b_RW⟩
 have FNW:=fun_mk (st:=sNW) lNW cNW kNW
 have b_NW:=FNW.binds (ps:=["number","readings"]) fun _ _ _ _ _ _ us hl=>match us,hl with | [_,_],_=>rfl
 have DNW:Dfn K mg "note_written" sNW fNW _ ["number","readings"]:=⟨FNW,PySem.W.mg_of X G aNW,b_NW⟩
 have FAW:=fun_mk (st:=sAW) lAW cAW kAW
 have b_AW:=FAW.binds (ps:=["entries","notes"]) fun _ _ _ _ _ _ us hl=>match us,hl with | [_,_],_=>rfl
 have DAW:Dfn K mg "apparatus_written" sAW fAW _ ["entries","notes"]:=⟨FAW,PySem.W.mg_of X G aAW,b_AW⟩
 have FER:=fun_mk (st:=sER) lER cER kER
 have b_ER:=FER.binds (ps:=["text"]) fun _ _ _ _ _ _ us hl=>match us,hl with | [_],_=>rfl
 have DER:Dfn K mg "entry_read" sER fER _ ["text"]:=⟨FER,PySem.W.mg_of X G aER,b_ER⟩
 have FESR:=fun_mk (st:=sESR) lESR cESR kESR
 have b_ESR:=FESR.binds (ps:=["line"]) fun _ _ _ _ _ _ us hl=>match us,hl with | [_],_=>rfl
 have DESR:Dfn K mg "entries_read" sESR fESR _ ["line"]:=⟨FESR,PySem.W.mg_of X G aESR,b_ESR⟩
 have FNR:=fun_mk (st:=sNR) lNR cNR kNR
 have b_NR:=FNR.binds (ps:=["text"]) fun _ _ _ _ _ _ us hl=>match us,hl with | [_],_=>rfl
 have DNR:Dfn K mg "number_read" sNR fNR _ ["text"]:=⟨FNR,PySem.W.mg_of X G aNR,b_NR⟩
 have FPR:=fun_mk (st:=sPR) lPR cPR kPR
 have b_PR:=FPR.binds (ps:=["text","between"]) fun _ _ _ _ _ _ us hl=>match us,hl with | [_,_],_=>rfl
 have DPR:Dfn K mg "parts_read" sPR fPR _ ["text","between"]:=⟨FPR,PySem.W.mg_of X G aPR,b_PR⟩
 have FRR:=fun_mk (st:=sRR) lRR cRR kRR
 have b_RR:=FRR.binds (ps:=["text"]) fun _ _ _ _ _ _ us hl=>match us,hl with | [_],_=>rfl
 have DRR:Dfn K mg "reading_read" sRR fRR _ ["text"]:=⟨FRR,PySem.W.mg_of X G aRR,b_RR⟩
 have FNTR:=fun_mk (st:=sNTR) lNTR cNTR kNTR
 have b_NTR:=FNTR.binds (ps:=["line"]) fun _ _ _ _ _ _ us hl=>match us,hl with | [_],_=>rfl
 have DNTR:Dfn K mg "note_read" sNTR fNTR _ ["line"]:=⟨FNTR,PySem.W.mg_of X G aNTR,b_NTR⟩
 have FAR:=fun_mk (st:=sAR) lAR cAR kAR
 have b_AR:=FAR.binds (ps:=["text"]) fun _ _ _ _ _ _ us hl=>match us,hl with | [_],_=>rfl
 have DAR:Dfn K mg "apparatus_read" sAR fAR _ ["text"]:=⟨FAR,PySem.W.mg_of X G aAR,b_AR⟩
 have FEntry:=fun_mk (st:=sEntry) lEntry cEntry kEntry
 have b_Entry:=FEntry.binds (ps:=["words","place"]) fun _ _ _ _ _ _ us hl=>match us,hl with | [_,_],_=>rfl
 have DEntry:Dfn K mg "entry_at" sEntry fEntry _ ["words","place"]:=⟨FEntry,PySem.W.mg_of X G aEntry,b_Entry⟩
 have FGapC:=fun_mk (st:=sGapC) lGapC cGapC kGapC
 have b_GapC:=FGapC.binds (ps:=["gap"]) fun _ _ _ _ _ _ us hl=>match us,hl with | [_],_=>rfl
 have DGapC:Dfn K mg "gap_columns" sGapC fGapC _ ["gap"]:=⟨FGapC,PySem.W.mg_of X G aGapC,b_GapC⟩
 have FColl:=fun_mk (st:=sColl) lColl cColl kColl
 have b_Coll:=FColl.binds (ps:=["base","copies","prices"]) fun _ _ _ _ _ _ us hl=>match us,hl with | [_,_,_],_=>rfl
 have DColl:Dfn K mg "collated" sColl fColl _ ["base","copies","prices"]:=⟨FColl,PySem.W.mg_of X G aColl,b_Coll⟩
 have FColK:=fun_mk (st:=sColK) lColK cColK kColK
 have b_ColK:=FColK.binds (ps:=["base","copies","prices"]) fun _ _ _ _ _ _ us hl=>match us,hl with | [_,_,_],_=>rfl
 have DColK:Dfn K mg "column_kinds" sColK fColK _ ["base","copies","prices"]:=⟨FColK,PySem.W.mg_of X G aColK,b_ColK⟩
 have FBack:=fun_mk (st:=sBack) lBack cBack kBack
 have b_Back:=FBack.binds (ps:=["collation","number"]) fun _ _ _ _ _ _ us hl=>match us,hl with | [_,_],_=>rfl
 have DBack:Dfn K mg "row_back" sBack fBack _ ["collation","number"]:=⟨FBack,PySem.W.mg_of X G aBack,b_Back⟩
 have FCell:=fun_mk (st:=sCell) lCell cCell kCell
 have b_Cell:=FCell.binds (ps:=["script","k"]) fun _ _ _ _ _ _ us hl=>match us,hl with | [_,_],_=>rfl
 have DCell:Dfn K mg "_law_cell_at" sCell fCell _ ["script","k"]:=⟨FCell,PySem.W.mg_of X G aCell,b_Cell⟩
 have FDraw:=fun_mk (st:=sDraw) lDraw cDraw kDraw
 have b_Draw:=FDraw.binds (ps:=["cell","k","many"]) fun _ _ _ _ _ _ us hl=>match us,hl with | [_,_,_],_=>rfl
 have DDraw:Dfn K mg "_law_draw" sDraw fDraw _ ["cell","k","many"]:=⟨FDraw,PySem.W.mg_of X G aDraw,b_Draw⟩
 have FWordBy:=fun_mk (st:=sWordBy) lWordBy cWordBy kWordBy
 have b_WordBy:=FWordBy.binds (ps:=["cell","k"]) fun _ _ _ _ _ _ us hl=>match us,hl with | [_,_],_=>rfl
 have DWordBy:Dfn K mg "_law_word_by" sWordBy fWordBy _ ["cell","k"]:=⟨FWordBy,PySem.W.mg_of X G aWordBy,b_WordBy⟩
 have FPool:=fun_mk (st:=sPool) lPool cPool kPool
 have b_Pool:=FPool.binds (ps:=["cell"]) fun _ _ _ _ _ _ us hl=>match us,hl with | [_],_=>rfl
 have DPool:Dfn K mg "_law_pool" sPool fPool _ ["cell"]:=⟨FPool,PySem.W.mg_of X G aPool,b_Pool⟩
 have FRowBy:=fun_mk (st:=sRowBy) lRowBy cRowBy kRowBy
 have b_RowBy:=FRowBy.binds (ps:=["cell","pool","most"]) fun _ _ _ _ _ _ us hl=>match us,hl with | [_,_,_],_=>rfl
 have DRowBy:Dfn K mg "_law_row_by" sRowBy fRowBy _ ["cell","pool","most"]:=⟨FRowBy,PySem.W.mg_of X G aRowBy,b_RowBy⟩
 have FCopyBy:=fun_mk (st:=sCopyBy) lCopyBy cCopyBy kCopyBy
 have b_CopyBy:=FCopyBy.binds (ps:=["base","cell","pool","most"]) fun _ _ _ _ _ _ us hl=>match us,hl with | [_,_,_,_],_=>rfl
 have DCopyBy:Dfn K mg "_law_copy_by" sCopyBy fCopyBy _ ["base","cell","pool","most"]:=⟨FCopyBy,PySem.W.mg_of X G aCopyBy,b_CopyBy⟩
 have FPricesBy:=fun_mk (st:=sPricesBy) lPricesBy cPricesBy kPricesBy
 have b_PricesBy:=FPricesBy.binds (ps:=["cell"]) fun _ _ _ _ _ _ us hl=>match us,hl with | [_],_=>rfl
 have DPricesBy:Dfn K mg "_law_prices_by" sPricesBy fPricesBy _ ["cell"]:=⟨FPricesBy,PySem.W.mg_of X G aPricesBy,b_PricesBy⟩
 have FSame:=fun_mk (st:=sSame) lSame cSame kSame
 have b_Same:=FSame.binds (ps:=["found","due"]) fun _ _ _ _ _ _ us hl=>match us,hl with | [_,_],_=>rfl
 have DSame:Dfn K mg "_law_same" sSame fSame _ ["found","due"]:=⟨FSame,PySem.W.mg_of X G aSame,b_Same⟩
 have FScene:=fun_mk (st:=sScene) lScene cScene kScene
 have b_Scene:=FScene.binds (ps:=["script","most"]) fun _ _ _ _ _ _ us hl=>match us,hl with | [_,_],_=>rfl
 have DScene:Dfn K mg "_law_scene" sScene fScene _ ["script","most"]:=⟨FScene,PySem.W.mg_of X G aScene,b_Scene⟩
 have FLaw:=fun_mk (st:=sLaw) lLaw cLaw kLaw
 have mLIKE:=PySem.W.mg_of X G gLIKE
 have mPRICE_PLACES:=PySem.W.mg_of X G gPRICE_PLACES
 have mGAP_KINDS:=PySem.W.mg_of X G gGAP_KINDS
 have mNoSlips:=PySem.W.mg_of X G gNoSlips
 have mNO_ENTRY:=PySem.W.mg_of X G gNO_ENTRY
 have mLETTERS:=PySem.W.mg_of X G gLETTERS
 have mFIGURES:=PySem.W.mg_of X G gFIGURES
 have mMOST_LETTERS:=PySem.W.mg_of X G gMOST_LETTERS
 have mMOST_PRICE:=PySem.W.mg_of X G gMOST_PRICE
 have mMOST_ROWS:=PySem.W.mg_of X G gMOST_ROWS
 have mall:=PySem.W.mg_none_of X G ball
 have mlen:=PySem.W.mg_none_of X G blen
 have mrange:=PySem.W.mg_none_of X G brange
 have misinstance:=PySem.W.mg_none_of X G bisinstance
 have mtuple:=PySem.W.mg_none_of X G btuple
 have mstr:=PySem.W.mg_none_of X G bstr
 have mint:=PySem.W.mg_none_of X G bint
 have mbool:=PySem.W.mg_none_of X G bbool
 have mmin:=PySem.W.mg_none_of X G bmin
 have menumerate:=PySem.W.mg_none_of X G benumerate
 have mmax:=PySem.W.mg_none_of X G bmax
 have mlist:=PySem.W.mg_none_of X G blist
 exact ⟨PySem.W.fnOf "law" "law" (defArgs sLaw) (defBody sLaw) (defScope sLaw) .none kVLaw dcLaw pmLaw anLaw cdLaw ctLaw,fun s v=>.of_eq rfl,fun base _ _=>ok_all FLaw DLooks DSkF DFits DWd DWw DAfter DPrice DSwW DSkL DWays DEmp DTld DRtab DCW DFC DLaid DRdf DNof DCB DOB DHas DIsW DWr DNum DEW DRW DNW DAW DER DESR DNR DPR DRR DNTR DAR DEntry DGapC DColl DColK DBack DCell DDraw DWordBy DPool DRowBy DCopyBy DPricesBy DSame DScene mall mlen mrange misinstance mtuple mstr mint mbool mmin menumerate mmax mlist mLIKE mPRICE_PLACES mGAP_KINDS mNoSlips vNoSlips (sqT_mod (ws:=[(Str.ofString "add",p1),(Str.ofString "twice",p2)]) tG (by show 2<=1000;omega)) ⟨j1,j2,j3,i6,j4⟩ ⟨dl,dk,⟨_,d1⟩,⟨_,d2⟩,⟨_,d3⟩,⟨_,d4⟩,⟨_,d5⟩,⟨_,d6⟩⟩ mNO_ENTRY mLETTERS mFIGURES mMOST_LETTERS mMOST_PRICE mMOST_ROWS⟩
theorem walk {l:PySem.W.OpenLaw} {q:Program} {loose:List Str} {XP:(Str->Option Value)->Heap->Prop} {YP:World->Heap->Prop} {d:DefRec} {K:Params->PySem.W.Frag} (hn:l.most=some 63) (hdf:d.params.defaults=[])
  (hY:∀ (w:World) (h:Heap),YP w h->(K w.params).In h)
  (F:∀ (w:World) (mg:Str->Option Value) (fa:Addr) (h:Heap),(K w.params).In h->h.Ns mainGlobals mg->mg d.name=some (.ref fa) →
   ∃ fd:FuncData,(∀ (s:Shared) (u:Value),BindsTo s fd ⟨[u],[]⟩ [("script",u)])/\∀ base:Heap,(K w.params).In base->base.Ns mainGlobals mg->FnOk l.prog w (K w.params) mg base CX0 10 fa fd ["script"] (spLaw (K w.params))) :
  PySem.W.WalkO q loose XP YP l.row.toRowW d [] (fun f vs=>PySem.call f vs):=
 L3.walk_ofB (n:=63) (k:=10) (x := "script") (CX:=fun _=>CX0) (sp:=fun w=>spLaw (K w.params)) hn (by decide) hdf ⟨rfl,by decide,by decide⟩ hY F (fun _ _ a ns hl hb _ hS=>⟨a,ns,rfl,hS,hl,hb,fun _=>rfl⟩) fun _ _ _ _ _ z=>z
end K63
open PySem PySem.W PyProof.Rows
set_option maxRecDepth 100000 in
set_option maxHeartbeats 0 in
theorem PySem.Challenge.cw_vellum_k63_whole_rows_to_text_and_back_holds : PySem.Challenge.rw_vellum_k63_whole_rows_to_text_and_back.Holds := by
 w_on
 refine holds_law K63.said0 fun said=>?_
 refine holds_open (q:=K63.view) (loose:=[Str.ofString "VellumError",Str.ofString "NoSlips",Str.ofString "NoNotes",Str.ofString "readings_of",Str.ofString "notes_of",Str.ofString "column_back",Str.ofString "collation_back",Str.ofString "LETTERS",Str.ofString "FIGURES",Str.ofString "MOST_LETTERS",Str.ofString "MOST_PRICE",Str.ofString "has_only",Str.ofString "is_word",Str.ofString "looks_alike",Str.ofString "writes_number",Str.ofString "number_of",Str.ofString "MOST_ROWS",Str.ofString "NO_ENTRY",Str.ofString "entry_written",Str.ofString "reading_written",Str.ofString "note_written",Str.ofString "apparatus_written",Str.ofString "entry_read",Str.ofString "entries_read",Str.ofString "number_read",Str.ofString "parts_read",Str.ofString "reading_read",Str.ofString "note_read",Str.ofString "apparatus_read",Str.ofString "LIKE",Str.ofString "PRICE_PLACES",Str.ofString "skip_fits",Str.ofString "step_fits",Str.ofString "words_done",Str.ofString "words_written",Str.ofString "step_after",Str.ofString "step_price",Str.ofString "swap_writes",Str.ofString "skip_lengths",Str.ofString "knot_ways",Str.ofString "empty_table",Str.ofString "table_told",Str.ofString "rest_table",Str.ofString "cheapest_ways",Str.ofString "first_cheapest",Str.ofString "GAP_KINDS",Str.ofString "laid_words",Str.ofString "entry_at",Str.ofString "gap_columns",Str.ofString "collated",Str.ofString "column_kinds",Str.ofString "row_back",Str.ofString "_law_cell_at",Str.ofString "_law_draw",Str.ofString "_law_word_by",Str.ofString "_law_pool",Str.ofString "_law_row_by",Str.ofString "_law_copy_by",Str.ofString "_law_prices_by",Str.ofString "_law_same",Str.ofString "_law_scene"]) (Xt:=(fun s=>PySem.W.xlAt K63.view [] s && PySem.W.recOk (PySem.W.RowW.records (PySem.W.OpenRow.toRowW PySem.Challenge.rw_vellum_k63_whole_rows_to_text_and_back.row)) s)) (XP:=XL K63.view [])
  (YP:=Hook.says (PySem.W.kHook K63.hp K63.ad K63.ad_hp)) (N:=4808)
  K63.left (Hook.of _) (Hook.keeps _) (fun s e=>xl_of s (Bool.and_eq_true_iff.mp e).1)
  XL.keeps rfl rfl rfl
  (fun s e=>recFacts_of (Bool.and_eq_true_iff.mp e).2) rfl said
  (by decide +kernel)
  ⟨rfl,rfl,rfl,rfl,rfl,by decide +kernel⟩ ?hw ?hc
 case hw=>w_witness2
 k_fill
 refine K63.walk (l:=PySem.Challenge.rw_vellum_k63_whole_rows_to_text_and_back) rfl rfl (fun w h Y=>PySem.W.kIn_of Y) ?F
 case F=>
  intro w mg fa h KX G hmg
  refine' K63.all_mk KX G hmg ?aLooks ?lLooks ?cLooks ?kLooks ?aSkF ?lSkF ?cSkF ?kSkF ?aFits ?lFits ?cFits ?kFits ?aWd ?lWd ?cWd ?kWd ?aWw ?lWw ?cWw ?kWw ?aAfter ?lAfter ?cAfter ?kAfter ?aPrice ?lPrice ?cPrice ?kPrice ?aSwW ?lSwW ?cSwW ?kSwW ?aSkL ?lSkL ?cSkL ?kSkL ?aWays ?lWays ?cWays ?kWays ?aEmp ?lEmp ?cEmp ?kEmp ?aTld ?lTld ?cTld ?kTld ?aRtab ?lRtab ?cRtab ?kRtab ?aCW ?lCW ?cCW ?kCW ?aFC ?lFC ?cFC ?kFC ?aLaid ?lLaid ?cLaid ?kLaid ?aRdf ?lRdf ?cRdf ?kRdf ?aNof ?lNof ?cNof ?kNof ?aCB ?lCB ?cCB ?kCB ?aOB ?lOB ?cOB ?kOB ?aHas ?lHas ?cHas ?kHas ?aIsW ?lIsW ?cIsW ?kIsW ?aWr ?lWr ?cWr ?kWr ?aNum ?lNum ?cNum ?kNum ?aEW ?lEW ?cEW ?kEW ?aRW ?lRW ?cRW ?kRW ?aNW ?lNW ?cNW ?kNW ?aAW ?lAW ?cAW ?kAW ?aER ?lER ?cER ?kER ?aESR ?lESR ?cESR ?kESR ?aNR ?lNR ?cNR ?kNR ?aPR ?lPR ?cPR ?kPR ?aRR ?lRR ?cRR ?kRR ?aNTR ?lNTR ?cNTR ?kNTR ?aAR ?lAR ?cAR ?kAR ?aEntry ?lEntry ?cEntry ?kEntry ?aGapC ?lGapC ?cGapC ?kGapC ?aColl ?lColl ?cColl ?kColl ?aColK ?lColK ?cColK ?kColK ?aBack ?lBack ?cBack ?kBack ?aCell ?lCell ?cCell ?kCell ?aDraw ?lDraw ?cDraw ?kDraw ?aWordBy ?lWordBy ?cWordBy ?kWordBy ?aPool ?lPool ?cPool ?kPool ?aRowBy ?lRowBy ?cRowBy ?kRowBy ?aCopyBy ?lCopyBy ?cCopyBy ?kCopyBy ?aPricesBy ?lPricesBy ?cPricesBy ?kPricesBy ?aSame ?lSame ?cSame ?kSame ?aScene ?lScene ?cScene ?kScene ?aLaw ?lLaw ?cLaw ?kLaw ?gLIKE ?gPRICE_PLACES ?gGAP_KINDS ?gNoSlips ?gNO_ENTRY ?gLETTERS ?gFIGURES ?gMOST_LETTERS ?gMOST_PRICE ?gMOST_ROWS ?ball ?blen ?brange ?bisinstance ?btuple ?bstr ?bint ?bbool ?bmin ?benumerate ?bmax ?blist ?vNoSlips ?tG ?j1 ?j2 ?j3 ?i6 ?j4 ?dl ?dk ?d1 ?d2 ?d3 ?d4 ?d5 ?d6
  (case aLooks=>k_is)
  (case lLooks=>k_is)
  (case cLooks=>k_is)
  (case kLooks=>k_is)
  (case aSkF=>k_is)
  (case lSkF=>k_is)
  (case cSkF=>k_is)
  (case kSkF=>k_is)
  (case aFits=>k_is)
  (case lFits=>k_is)
  (case cFits=>k_is)
  (case kFits=>k_is)
  (case aWd=>k_is)
  (case lWd=>k_is)
  (case cWd=>k_is)
  (case kWd=>k_is)
  (case aWw=>k_is)
  (case lWw=>k_is)
  (case cWw=>k_is)
  (case kWw=>k_is)
  (case aAfter=>k_is)
  (case lAfter=>k_is)
  (case cAfter=>k_is)
  (case kAfter=>k_is)
  (case aPrice=>k_is)
  (case lPrice=>k_is)
  (case cPrice=>k_is)
  (case kPrice=>k_is)
  (case aSwW=>k_is)
  (case lSwW=>k_is)
  (case cSwW=>k_is)
  (case kSwW=>k_is)
  (case aSkL=>k_is)
  (case lSkL=>k_is)
  (case cSkL=>k_is)
  (case kSkL=>k_is)
  (case aWays=>k_is)
  (case lWays=>k_is)
  (case cWays=>k_is)
  (case kWays=>k_is)
  (case aEmp=>k_is)
  (case lEmp=>k_is)
  (case cEmp=>k_is)
  (case kEmp=>k_is)
  (case aTld=>k_is)
  (case lTld=>k_is)
  (case cTld=>k_is)
  (case kTld=>k_is)
  (case aRtab=>k_is)
  (case lRtab=>k_is)
  (case cRtab=>k_is)
  (case kRtab=>k_is)
  (case aCW=>k_is)
  (case lCW=>k_is)
  (case cCW=>k_is)
  (case kCW=>k_is)
  (case aFC=>k_is)
  (case lFC=>k_is)
  (case cFC=>k_is)
  (case kFC=>k_is)
  (case aLaid=>k_is)
  (case lLaid=>k_is)
  (case cLaid=>k_is)
  (case kLaid=>k_is)
  (case aRdf=>k_is)
  (case lRdf=>k_is)
  (case cRdf=>k_is)
  (case kRdf=>k_is)
  (case aNof=>k_is)
  (case lNof=>k_is)
  (case cNof=>k_is)
  (case kNof=>k_is)
  (case aCB=>k_is)
  (case lCB=>k_is)
  (case cCB=>k_is)
  (case kCB=>k_is)
  (case aOB=>k_is)
  (case lOB=>k_is)
  (case cOB=>k_is)
  (case kOB=>k_is)
  (case aHas=>k_is)
  (case lHas=>k_is)
  (case cHas=>k_is)
  (case kHas=>k_is)
  (case aIsW=>k_is)
  (case lIsW=>k_is)
  (case cIsW=>k_is)
  (case kIsW=>k_is)
  (case aWr=>k_is)
  (case lWr=>k_is)
  (case cWr=>k_is)
  (case kWr=>k_is)
  (case aNum=>k_is)
  (case lNum=>k_is)
  (case cNum=>k_is)
  (case kNum=>k_is)
  (case aEW=>k_is)
  (case lEW=>k_is)
  (case cEW=>k_is)
  (case kEW=>k_is)
  (case aRW=>k_is)
  (case lRW=>k_is)
  (case cRW=>k_is)
  (case kRW=>k_is)
  (case aNW=>k_is)
  (case lNW=>k_is)
  (case cNW=>k_is)
  (case kNW=>k_is)
  (case aAW=>k_is)
  (case lAW=>k_is)
  (case cAW=>k_is)
  (case kAW=>k_is)
  (case aER=>k_is)
  (case lER=>k_is)
  (case cER=>k_is)
  (case kER=>k_is)
  (case aESR=>k_is)
  (case lESR=>k_is)
  (case cESR=>k_is)
  (case kESR=>k_is)
  (case aNR=>k_is)
  (case lNR=>k_is)
  (case cNR=>k_is)
  (case kNR=>k_is)
  (case aPR=>k_is)
  (case lPR=>k_is)
  (case cPR=>k_is)
  (case kPR=>k_is)
  (case aRR=>k_is)
  (case lRR=>k_is)
  (case cRR=>k_is)
  (case kRR=>k_is)
  (case aNTR=>k_is)
  (case lNTR=>k_is)
  (case cNTR=>k_is)
  (case kNTR=>k_is)
  (case aAR=>k_is)
  (case lAR=>k_is)
  (case cAR=>k_is)
  (case kAR=>k_is)
  (case aEntry=>k_is)
  (case lEntry=>k_is)
  (case cEntry=>k_is)
  (case kEntry=>k_is)
  (case aGapC=>k_is)
  (case lGapC=>k_is)
  (case cGapC=>k_is)
  (case kGapC=>k_is)
  (case aColl=>k_is)
  (case lColl=>k_is)
  (case cColl=>k_is)
  (case kColl=>k_is)
  (case aColK=>k_is)
  (case lColK=>k_is)
  (case cColK=>k_is)
  (case kColK=>k_is)
  (case aBack=>k_is)
  (case lBack=>k_is)
  (case cBack=>k_is)
  (case kBack=>k_is)
  (case aCell=>k_is)
  (case lCell=>k_is)
  (case cCell=>k_is)
  (case kCell=>k_is)
  (case aDraw=>k_is)
  (case lDraw=>k_is)
  (case cDraw=>k_is)
  (case kDraw=>k_is)
  (case aWordBy=>k_is)
  (case lWordBy=>k_is)
  (case cWordBy=>k_is)
  (case kWordBy=>k_is)
  (case aPool=>k_is)
  (case lPool=>k_is)
  (case cPool=>k_is)
  (case kPool=>k_is)
  (case aRowBy=>k_is)
  (case lRowBy=>k_is)
  (case cRowBy=>k_is)
  (case kRowBy=>k_is)
  (case aCopyBy=>k_is)
  (case lCopyBy=>k_is)
  (case cCopyBy=>k_is)
  (case kCopyBy=>k_is)
  (case aPricesBy=>k_is)
  (case lPricesBy=>k_is)
  (case cPricesBy=>k_is)
  (case kPricesBy=>k_is)
  (case aSame=>k_is)
  (case lSame=>k_is)
  (case cSame=>k_is)
  (case kSame=>k_is)
  (case aScene=>k_is)
  (case lScene=>k_is)
  (case cScene=>k_is)
  (case kScene=>k_is)
  (case aLaw=>k_is)
  (case lLaw=>k_is)
  (case cLaw=>k_is)
  (case kLaw=>k_is)
  (case gLIKE=>k_is)
  (case gPRICE_PLACES=>k_is)
  (case gGAP_KINDS=>k_is)
  (case gNoSlips=>k_is)
  (case gNO_ENTRY=>k_is)
  (case gLETTERS=>k_is)
  (case gFIGURES=>k_is)
  (case gMOST_LETTERS=>k_is)
  (case gMOST_PRICE=>k_is)
  (case gMOST_ROWS=>k_is)
  (case ball=>k_is)
  (case blen=>k_is)
  (case brange=>k_is)
  (case bisinstance=>k_is)
  (case btuple=>k_is)
  (case bstr=>k_is)
  (case bint=>k_is)
  (case bbool=>k_is)
  (case bmin=>k_is)
  (case benumerate=>k_is)
  (case bmax=>k_is)
  (case blist=>k_is)
  (case vNoSlips=>k_exc)
  (case tG=>k_is)
  (case j1=>kit_is)
  (case j2=>kit_is)
  (case j3=>kit_is)
  (case i6=>kit_is)
  (case j4=>kit_is)
  (case dl=>k_is)
  (case dk=>k_keys)
  (case d1=>k_is)
  (case d2=>k_is)
  (case d3=>k_is)
  (case d4=>k_is)
  (case d5=>k_is)
  (case d6=>k_is)
