import PyProof.Rows.All
import Wide.All
import OpenK.AllK
import Wide.FinOn
import Lean
import PyProof.EqAt
import PyProof.EqKinds
import PyProof.TupleCall
import PyProof.ListMulRoad
import PyProof.Rows.ListMul
import PySem.Challenge.RW_vellum_k64_whole_slips_by_their_texts
set_option Elab.async false
set_option linter.all false
set_option maxRecDepth 100000
set_option maxHeartbeats 4000000
namespace L2
open PySem PySem.Spec PyProof.Rows
def defArgs (s:Stmt):Arguments:=match s with
 | .FunctionDef _ a _ _ _ _ _ _ _ _=>a
 | _=>{ posonlyargs:=[],args:=[],vararg:=none,kwonlyargs:=[],kw_defaults:=[],kwarg:=none,defaults:=[] }
def defBody (s:Stmt):List Stmt:=match s with
 | .FunctionDef _ _ b _ _ _ _ _ _ _=>b
 | _=>[]
def defScope (s:Stmt):Scope:=match s with
 | .FunctionDef _ _ _ _ _ _ sc _ _ _=>sc
 | _=>{ kind:=.function,names:=[],isGenerator:=false,isCoroutine:=false }
end L2
namespace K64
open PySem PySem.Spec PyProof.Rows L2
def top (i:Nat):Stmt:=PySem.Challenge.pw_vellum_k64_whole_slips_by_their_texts.main.body.getD i (.Pass ⟨0,0,0,0⟩)
abbrev sHas:Stmt:=top 8
abbrev sIsW:Stmt:=top 9
abbrev sLooks:Stmt:=top 10
abbrev sWr:Stmt:=top 11
abbrev sNum:Stmt:=top 12
abbrev sSkF:Stmt:=top 16
abbrev sFits:Stmt:=top 17
abbrev sWd:Stmt:=top 18
abbrev sWw:Stmt:=top 19
abbrev sAfter:Stmt:=top 20
abbrev sWalk:Stmt:=top 21
abbrev sCopy:Stmt:=top 22
abbrev sPrice:Stmt:=top 23
abbrev sCost:Stmt:=top 24
abbrev sSwW:Stmt:=top 26
abbrev sSkL:Stmt:=top 27
abbrev sWays:Stmt:=top 28
abbrev sEmp:Stmt:=top 29
abbrev sTld:Stmt:=top 30
abbrev sPtab:Stmt:=top 31
abbrev sRtab:Stmt:=top 32
abbrev sCW:Stmt:=top 34
abbrev sFC:Stmt:=top 35
abbrev sLs:Stmt:=top 36
abbrev sKW:Stmt:=top 41
abbrev sSW:Stmt:=top 42
abbrev sWrt:Stmt:=top 43
abbrev sCnt:Stmt:=top 44
abbrev sPair:Stmt:=top 45
abbrev sItem:Stmt:=top 46
abbrev sRd:Stmt:=top 47
abbrev sCell:Stmt:=top 49
abbrev sDraw:Stmt:=top 50
abbrev sWordBy:Stmt:=top 51
abbrev sPool:Stmt:=top 52
abbrev sRowBy:Stmt:=top 53
abbrev sCopyBy:Stmt:=top 54
abbrev sPricesBy:Stmt:=top 55
abbrev sSame:Stmt:=top 56
abbrev sLAlk:Stmt:=top 57
abbrev sWB:Stmt:=top 58
abbrev sPO:Stmt:=top 59
abbrev sLWk:Stmt:=top 60
abbrev sRight:Stmt:=top 61
abbrev sLaw:Stmt:=top 62
noncomputable abbrev en (P:Params) (z:Str) (t:Nat) (v:Value):DictEntry:=⟨PyData.keyHash P z,.str z t,v⟩
noncomputable abbrev fn (n:String) (s:Stmt) (m:String) (t c:Nat):Obj:=⟨.type "function",none,.func (PySem.W.fnOf (Str.ofString n) (Str.ofString n) (defArgs s) (defBody s) (defScope s) .none .none .none (.str (Str.ofString m) t) none (.ref c) .none),#[]⟩
noncomputable abbrev co (n:String) (t u v a b c r l q y m k z:Nat):Obj:={ cls:=.type "code",data:=.fields #[.str (Str.ofString n) t,.str (Str.ofString n) u,.str (Str.ofString "/claim/cut.py") v,.int a 0,.int b 0,.int 0 0,.int 0 0,.int c 0,.ref r,.bool true,.int l 0,.ref q,.none,.none,.none,.ref y,.int m 0,.int k 0,.str (Str.ofString "/claim/cut.py") z] }
noncomputable def hp:Params->PySem.W.Frag:=fun P=>
 (nat_lit 2,({ cls:=.none,data:=.dict #[] }:Obj)) ::
 (nat_lit 3,({ cls:=.type "dict",data:=.dict #[en P (Str.ofString "__name__") 165 (.str (Str.ofString "law_vellum_k64_whole_slips_by_their_texts") 549),en P (Str.ofString "__doc__") 166 (.none),en P (Str.ofString "__package__") 167 (.none),en P (Str.ofString "__loader__") 168 (.builtin "__main__.__loader__#opaque"),en P (Str.ofString "__spec__") 169 (.none),en P (Str.ofString "__annotations__") 170 (.ref 6),en P (Str.ofString "__builtins__") 171 (.ref 4),en P (Str.ofString "__file__") 173 (.str (Str.ofString "/claim/cut.py") 172),en P (Str.ofString "__cached__") 174 (.none),en P (Str.ofString "VellumError") 206 (.ref 24),en P (Str.ofString "NoSlips") 222 (.ref 37),en P (Str.ofString "LETTERS") 226 (.str (Str.ofString "abcdefghijklmnopqrstuvwxyz") 225),en P (Str.ofString "FIGURES") 228 (.str (Str.ofString "0123456789") 227),en P (Str.ofString "MOST_LETTERS") 230 (.int 12 229),en P (Str.ofString "MOST_WORDS") 232 (.int 40 231),en P (Str.ofString "has_only") 238 (.ref 44),en P (Str.ofString "is_word") 245 (.ref 51),en P (Str.ofString "looks_alike") 251 (.ref 56),en P (Str.ofString "writes_number") 258 (.ref 63),en P (Str.ofString "number_of") 267 (.ref 70),en P (Str.ofString "LIKE") 271 (.int 0 270),en P (Str.ofString "PRICE_PLACES") 290 (.ref 71),en P (Str.ofString "skip_fits") 299 (.ref 78),en P (Str.ofString "step_fits") 310 (.ref 85),en P (Str.ofString "words_done") 318 (.ref 92),en P (Str.ofString "words_written") 329 (.ref 99),en P (Str.ofString "step_after") 339 (.ref 106),en P (Str.ofString "steps_walked") 353 (.ref 113),en P (Str.ofString "copy_made") 361 (.ref 120),en P (Str.ofString "step_price") 372 (.ref 127),en P (Str.ofString "slips_price") 378 (.ref 132),en P (Str.ofString "swap_writes") 390 (.ref 139),en P (Str.ofString "skip_lengths") 396 (.ref 144),en P (Str.ofString "knot_ways") 402 (.ref 149),en P (Str.ofString "empty_table") 408 (.ref 154),en P (Str.ofString "table_told") 414 (.ref 159),en P (Str.ofString "price_table") 430 (.ref 166),en P (Str.ofString "rest_table") 436 (.ref 171),en P (Str.ofString "cheapest_ways") 454 (.ref 178),en P (Str.ofString "first_cheapest") 468 (.ref 185),en P (Str.ofString "least_slips") 478 (.ref 192),en P (Str.ofString "MOST_STEPS") 482 (.int 80 481),en P (Str.ofString "BARE_KINDS") 486 (.ref 193),en P (Str.ofString "WORD_KINDS") 489 (.ref 194),en P (Str.ofString "keeps_written") 496 (.ref 201),en P (Str.ofString "step_written") 502 (.ref 206),en P (Str.ofString "slips_written") 512 (.ref 213),en P (Str.ofString "count_read") 520 (.ref 220),en P (Str.ofString "pair_read") 529 (.ref 227),en P (Str.ofString "item_read") 539 (.ref 234),en P (Str.ofString "slips_read") 548 (.ref 241),en P (Str.ofString "_law_cell_at") 558 (.ref 248),en P (Str.ofString "_law_draw") 569 (.ref 255),en P (Str.ofString "_law_word_by") 579 (.ref 262),en P (Str.ofString "_law_pool") 585 (.ref 267),en P (Str.ofString "_law_row_by") 591 (.ref 272),en P (Str.ofString "_law_copy_by") 605 (.ref 279),en P (Str.ofString "_law_prices_by") 615 (.ref 286),en P (Str.ofString "_law_same") 621 (.ref 291),en P (Str.ofString "_law_alike") 627 (.ref 296),en P (Str.ofString "_law_written_by") 637 (.ref 303),en P (Str.ofString "_law_price_of") 648 (.ref 310),en P (Str.ofString "_law_walked") 662 (.ref 317),en P (Str.ofString "_law_right") 673 (.ref 324),en P (Str.ofString "law") 686 (.ref 331)] 65 }:Obj)) ::
 (nat_lit 23,({ cls:=.type "dict",data:=.dict #[en P (Str.ofString "__module__") 196 (.str (Str.ofString "vellum.errors") 187),en P (Str.ofString "__firstlineno__") 200 (.int 2 199),en P (Str.ofString "__static_attributes__") 201 (.ref 22),en P (Str.ofString "__weakref__") 203 (.ref 25),en P (Str.ofString "__doc__") 204 (.none)] 3 }:Obj)) ::
 (nat_lit 24,({ cls:=.type "type",data:=.cls { name:=Str.ofString "VellumError",bases:=[.type "ValueError"],mro:=[.ref 24,.type "ValueError",.type "Exception",.type "BaseException",.type "object"],ns:=23,qualname:=Str.ofString "VellumError",subclasses:=[.ref 37] },slots:=#[Option.some (.ref 15),none,Option.some (.str (Str.ofString "VellumError") 189),Option.some (.str (Str.ofString "VellumError") 197),Option.some (.builtin "ValueError.__new__"),Option.some (.bool true)] }:Obj)) ::
 (nat_lit 25,({ cls:=.type "getset_descriptor",data:=.fields #[.str (Str.ofString "__weakref__") 202,.ref 24,.builtin "ExceptionGroup.__weakref__",.none] }:Obj)) ::
 (nat_lit 36,({ cls:=.type "dict",data:=.dict #[en P (Str.ofString "__module__") 214 (.str (Str.ofString "vellum.errors") 187),en P (Str.ofString "__firstlineno__") 218 (.int 4 217),en P (Str.ofString "__static_attributes__") 219 (.ref 35),en P (Str.ofString "__doc__") 220 (.none)] 2 }:Obj)) ::
 (nat_lit 37,({ cls:=.type "type",data:=.cls { name:=Str.ofString "NoSlips",bases:=[.ref 24],mro:=[.ref 37,.ref 24,.type "ValueError",.type "Exception",.type "BaseException",.type "object"],ns:=36,qualname:=Str.ofString "NoSlips" },slots:=#[Option.some (.ref 28),none,Option.some (.str (Str.ofString "NoSlips") 207),Option.some (.str (Str.ofString "NoSlips") 215),Option.some (.builtin "ValueError.__new__"),Option.some (.bool true)] }:Obj)) ::
 (nat_lit 43,(co "has_only" 233 234 235 11 2 3 40 181 41 42 236 11 237:Obj)) ::
 (nat_lit 44,(fn "has_only" sHas "vellum.words" 223 43:Obj)) ::
 (nat_lit 50,({ cls:=.type "code",data:=.fields #[.str (Str.ofString "is_word") 239,.str (Str.ofString "is_word") 240,.str (Str.ofString "/claim/cut.py") 241,.int 13 0,.int 1 0,.int 0 0,.int 0 0,.int 3 0,.ref 45,.bool true,.int 181 0,.ref 46,.none,.ref 47,.ref 48,.ref 49,.int 243 0,.int 13 0,.str (Str.ofString "/claim/cut.py") 244] }:Obj)) ::
 (nat_lit 51,(fn "is_word" sIsW "vellum.words" 223 50:Obj)) ::
 (nat_lit 55,(co "looks_alike" 246 247 248 15 2 3 52 181 53 54 249 15 250:Obj)) ::
 (nat_lit 56,(fn "looks_alike" sLooks "vellum.words" 223 55:Obj)) ::
 (nat_lit 62,({ cls:=.type "code",data:=.fields #[.str (Str.ofString "writes_number") 252,.str (Str.ofString "writes_number") 253,.str (Str.ofString "/claim/cut.py") 254,.int 20 0,.int 1 0,.int 0 0,.int 0 0,.int 3 0,.ref 57,.bool true,.int 181 0,.ref 58,.none,.ref 59,.ref 60,.ref 61,.int 256 0,.int 20 0,.str (Str.ofString "/claim/cut.py") 257] }:Obj)) ::
 (nat_lit 63,(fn "writes_number" sWr "vellum.words" 223 62:Obj)) ::
 (nat_lit 69,({ cls:=.type "code",data:=.fields #[.str (Str.ofString "number_of") 259,.str (Str.ofString "number_of") 260,.str (Str.ofString "/claim/cut.py") 261,.int 24 0,.int 2 0,.int 0 0,.int 0 0,.int 3 0,.ref 64,.bool true,.int 181 0,.ref 65,.none,.ref 66,.ref 67,.ref 68,.int 265 0,.int 24 0,.str (Str.ofString "/claim/cut.py") 266] }:Obj)) ::
 (nat_lit 70,(fn "number_of" sNum "vellum.words" 223 69:Obj)) ::
 (nat_lit 71,({ cls:=.type "dict",data:=.dict #[en P (Str.ofString "turn") 272 (.int 1 273),en P (Str.ofString "lose") 274 (.int 2 275),en P (Str.ofString "add") 276 (.int 3 277),en P (Str.ofString "twice") 278 (.int 4 279),en P (Str.ofString "swap") 280 (.int 5 281),en P (Str.ofString "skip") 282 (.int 6 283)] 6 }:Obj)) ::
 (nat_lit 77,({ cls:=.type "code",data:=.fields #[.str (Str.ofString "skip_fits") 291,.str (Str.ofString "skip_fits") 292,.str (Str.ofString "/claim/cut.py") 293,.int 32 0,.int 3 0,.int 0 0,.int 0 0,.int 3 0,.ref 72,.bool true,.int 181 0,.ref 73,.none,.ref 74,.ref 75,.ref 76,.int 297 0,.int 32 0,.str (Str.ofString "/claim/cut.py") 298] }:Obj)) ::
 (nat_lit 78,(fn "skip_fits" sSkF "vellum.slips" 268 77:Obj)) ::
 (nat_lit 84,({ cls:=.type "code",data:=.fields #[.str (Str.ofString "step_fits") 300,.str (Str.ofString "step_fits") 301,.str (Str.ofString "/claim/cut.py") 302,.int 36 0,.int 4 0,.int 0 0,.int 0 0,.int 3 0,.ref 79,.bool true,.int 181 0,.ref 80,.none,.ref 81,.ref 82,.ref 83,.int 308 0,.int 36 0,.str (Str.ofString "/claim/cut.py") 309] }:Obj)) ::
 (nat_lit 85,(fn "step_fits" sFits "vellum.slips" 268 84:Obj)) ::
 (nat_lit 91,({ cls:=.type "code",data:=.fields #[.str (Str.ofString "words_done") 311,.str (Str.ofString "words_done") 312,.str (Str.ofString "/claim/cut.py") 313,.int 49 0,.int 1 0,.int 0 0,.int 0 0,.int 3 0,.ref 86,.bool true,.int 181 0,.ref 87,.none,.ref 88,.ref 89,.ref 90,.int 316 0,.int 49 0,.str (Str.ofString "/claim/cut.py") 317] }:Obj)) ::
 (nat_lit 92,(fn "words_done" sWd "vellum.slips" 268 91:Obj)) ::
 (nat_lit 98,({ cls:=.type "code",data:=.fields #[.str (Str.ofString "words_written") 319,.str (Str.ofString "words_written") 320,.str (Str.ofString "/claim/cut.py") 321,.int 58 0,.int 4 0,.int 0 0,.int 0 0,.int 3 0,.ref 93,.bool true,.int 181 0,.ref 94,.none,.ref 95,.ref 96,.ref 97,.int 327 0,.int 58 0,.str (Str.ofString "/claim/cut.py") 328] }:Obj)) ::
 (nat_lit 99,(fn "words_written" sWw "vellum.slips" 268 98:Obj)) ::
 (nat_lit 105,({ cls:=.type "code",data:=.fields #[.str (Str.ofString "step_after") 330,.str (Str.ofString "step_after") 331,.str (Str.ofString "/claim/cut.py") 332,.int 69 0,.int 4 0,.int 0 0,.int 0 0,.int 3 0,.ref 100,.bool true,.int 181 0,.ref 101,.none,.ref 102,.ref 103,.ref 104,.int 337 0,.int 69 0,.str (Str.ofString "/claim/cut.py") 338] }:Obj)) ::
 (nat_lit 106,(fn "step_after" sAfter "vellum.slips" 268 105:Obj)) ::
 (nat_lit 112,({ cls:=.type "code",data:=.fields #[.str (Str.ofString "steps_walked") 340,.str (Str.ofString "steps_walked") 341,.str (Str.ofString "/claim/cut.py") 342,.int 73 0,.int 2 0,.int 0 0,.int 0 0,.int 3 0,.ref 107,.bool true,.int 181 0,.ref 108,.none,.ref 109,.ref 110,.ref 111,.int 351 0,.int 73 0,.str (Str.ofString "/claim/cut.py") 352] }:Obj)) ::
 (nat_lit 113,(fn "steps_walked" sWalk "vellum.slips" 268 112:Obj)) ::
 (nat_lit 119,({ cls:=.type "code",data:=.fields #[.str (Str.ofString "copy_made") 354,.str (Str.ofString "copy_made") 355,.str (Str.ofString "/claim/cut.py") 356,.int 88 0,.int 2 0,.int 0 0,.int 0 0,.int 3 0,.ref 114,.bool true,.int 181 0,.ref 115,.none,.ref 116,.ref 117,.ref 118,.int 359 0,.int 88 0,.str (Str.ofString "/claim/cut.py") 360] }:Obj)) ::
 (nat_lit 120,(fn "copy_made" sCopy "vellum.slips" 268 119:Obj)) ::
 (nat_lit 126,({ cls:=.type "code",data:=.fields #[.str (Str.ofString "step_price") 362,.str (Str.ofString "step_price") 363,.str (Str.ofString "/claim/cut.py") 364,.int 90 0,.int 4 0,.int 0 0,.int 0 0,.int 3 0,.ref 121,.bool true,.int 181 0,.ref 122,.none,.ref 123,.ref 124,.ref 125,.int 370 0,.int 90 0,.str (Str.ofString "/claim/cut.py") 371] }:Obj)) ::
 (nat_lit 127,(fn "step_price" sPrice "vellum.slips" 268 126:Obj)) ::
 (nat_lit 131,(co "slips_price" 373 374 375 97 3 3 128 181 129 130 376 97 377:Obj)) ::
 (nat_lit 132,(fn "slips_price" sCost "vellum.slips" 268 131:Obj)) ::
 (nat_lit 138,({ cls:=.type "code",data:=.fields #[.str (Str.ofString "swap_writes") 381,.str (Str.ofString "swap_writes") 382,.str (Str.ofString "/claim/cut.py") 383,.int 101 0,.int 4 0,.int 0 0,.int 0 0,.int 3 0,.ref 133,.bool true,.int 181 0,.ref 134,.none,.ref 135,.ref 136,.ref 137,.int 388 0,.int 101 0,.str (Str.ofString "/claim/cut.py") 389] }:Obj)) ::
 (nat_lit 139,(fn "swap_writes" sSwW "vellum.grid" 379 138:Obj)) ::
 (nat_lit 143,(co "skip_lengths" 391 392 393 105 2 3 140 181 141 142 394 105 395:Obj)) ::
 (nat_lit 144,(fn "skip_lengths" sSkL "vellum.grid" 379 143:Obj)) ::
 (nat_lit 148,(co "knot_ways" 397 398 399 109 4 3 145 181 146 147 400 109 401:Obj)) ::
 (nat_lit 149,(fn "knot_ways" sWays "vellum.grid" 379 148:Obj)) ::
 (nat_lit 153,(co "empty_table" 403 404 405 124 2 3 150 181 151 152 406 124 407:Obj)) ::
 (nat_lit 154,(fn "empty_table" sEmp "vellum.grid" 379 153:Obj)) ::
 (nat_lit 158,(co "table_told" 409 410 411 126 1 3 155 181 156 157 412 126 413:Obj)) ::
 (nat_lit 159,(fn "table_told" sTld "vellum.grid" 379 158:Obj)) ::
 (nat_lit 165,({ cls:=.type "code",data:=.fields #[.str (Str.ofString "price_table") 415,.str (Str.ofString "price_table") 416,.str (Str.ofString "/claim/cut.py") 417,.int 128 0,.int 3 0,.int 0 0,.int 0 0,.int 3 0,.ref 160,.bool true,.int 181 0,.ref 161,.none,.ref 162,.ref 163,.ref 164,.int 428 0,.int 128 0,.str (Str.ofString "/claim/cut.py") 429] }:Obj)) ::
 (nat_lit 166,(fn "price_table" sPtab "vellum.grid" 379 165:Obj)) ::
 (nat_lit 170,(co "rest_table" 431 432 433 138 3 3 167 181 168 169 434 138 435:Obj)) ::
 (nat_lit 171,(fn "rest_table" sRtab "vellum.grid" 379 170:Obj)) ::
 (nat_lit 177,({ cls:=.type "code",data:=.fields #[.str (Str.ofString "cheapest_ways") 439,.str (Str.ofString "cheapest_ways") 440,.str (Str.ofString "/claim/cut.py") 441,.int 147 0,.int 6 0,.int 0 0,.int 0 0,.int 3 0,.ref 172,.bool true,.int 181 0,.ref 173,.none,.ref 174,.ref 175,.ref 176,.int 452 0,.int 147 0,.str (Str.ofString "/claim/cut.py") 453] }:Obj)) ::
 (nat_lit 178,(fn "cheapest_ways" sCW "vellum.least" 437 177:Obj)) ::
 (nat_lit 184,({ cls:=.type "code",data:=.fields #[.str (Str.ofString "first_cheapest") 455,.str (Str.ofString "first_cheapest") 456,.str (Str.ofString "/claim/cut.py") 457,.int 153 0,.int 3 0,.int 0 0,.int 0 0,.int 3 0,.ref 179,.bool true,.int 181 0,.ref 180,.none,.ref 181,.ref 182,.ref 183,.int 466 0,.int 153 0,.str (Str.ofString "/claim/cut.py") 467] }:Obj)) ::
 (nat_lit 185,(fn "first_cheapest" sFC "vellum.least" 437 184:Obj)) ::
 (nat_lit 191,({ cls:=.type "code",data:=.fields #[.str (Str.ofString "least_slips") 469,.str (Str.ofString "least_slips") 470,.str (Str.ofString "/claim/cut.py") 471,.int 164 0,.int 3 0,.int 0 0,.int 0 0,.int 3 0,.ref 186,.bool true,.int 181 0,.ref 187,.none,.ref 188,.ref 189,.ref 190,.int 476 0,.int 164 0,.str (Str.ofString "/claim/cut.py") 477] }:Obj)) ::
 (nat_lit 192,(fn "least_slips" sLs "vellum.least" 437 191:Obj)) ::
 (nat_lit 193,({ cls:=.type "tuple",data:=.seq #[.str (Str.ofString "lose") 483,.str (Str.ofString "twice") 484,.str (Str.ofString "swap") 485] }:Obj)) ::
 (nat_lit 194,({ cls:=.type "tuple",data:=.seq #[.str (Str.ofString "turn") 487,.str (Str.ofString "add") 488] }:Obj)) ::
 (nat_lit 200,({ cls:=.type "code",data:=.fields #[.str (Str.ofString "keeps_written") 490,.str (Str.ofString "keeps_written") 491,.str (Str.ofString "/claim/cut.py") 492,.int 171 0,.int 1 0,.int 0 0,.int 0 0,.int 3 0,.ref 195,.bool true,.int 181 0,.ref 196,.none,.ref 197,.ref 198,.ref 199,.int 494 0,.int 171 0,.str (Str.ofString "/claim/cut.py") 495] }:Obj)) ::
 (nat_lit 201,(fn "keeps_written" sKW "vellum.slipnotes" 479 200:Obj)) ::
 (nat_lit 205,(co "step_written" 497 498 499 173 1 3 202 181 203 204 500 173 501:Obj)) ::
 (nat_lit 206,(fn "step_written" sSW "vellum.slipnotes" 479 205:Obj)) ::
 (nat_lit 212,({ cls:=.type "code",data:=.fields #[.str (Str.ofString "slips_written") 503,.str (Str.ofString "slips_written") 504,.str (Str.ofString "/claim/cut.py") 505,.int 175 0,.int 1 0,.int 0 0,.int 0 0,.int 3 0,.ref 207,.bool true,.int 181 0,.ref 208,.none,.ref 209,.ref 210,.ref 211,.int 510 0,.int 175 0,.str (Str.ofString "/claim/cut.py") 511] }:Obj)) ::
 (nat_lit 213,(fn "slips_written" sWrt "vellum.slipnotes" 479 212:Obj)) ::
 (nat_lit 219,({ cls:=.type "code",data:=.fields #[.str (Str.ofString "count_read") 513,.str (Str.ofString "count_read") 514,.str (Str.ofString "/claim/cut.py") 515,.int 187 0,.int 1 0,.int 0 0,.int 0 0,.int 3 0,.ref 214,.bool true,.int 181 0,.ref 215,.none,.ref 216,.ref 217,.ref 218,.int 518 0,.int 187 0,.str (Str.ofString "/claim/cut.py") 519] }:Obj)) ::
 (nat_lit 220,(fn "count_read" sCnt "vellum.slipnotes" 479 219:Obj)) ::
 (nat_lit 226,({ cls:=.type "code",data:=.fields #[.str (Str.ofString "pair_read") 521,.str (Str.ofString "pair_read") 522,.str (Str.ofString "/claim/cut.py") 523,.int 190 0,.int 2 0,.int 0 0,.int 0 0,.int 3 0,.ref 221,.bool true,.int 181 0,.ref 222,.none,.ref 223,.ref 224,.ref 225,.int 527 0,.int 190 0,.str (Str.ofString "/claim/cut.py") 528] }:Obj)) ::
 (nat_lit 227,(fn "pair_read" sPair "vellum.slipnotes" 479 226:Obj)) ::
 (nat_lit 233,({ cls:=.type "code",data:=.fields #[.str (Str.ofString "item_read") 530,.str (Str.ofString "item_read") 531,.str (Str.ofString "/claim/cut.py") 532,.int 197 0,.int 1 0,.int 0 0,.int 0 0,.int 3 0,.ref 228,.bool true,.int 181 0,.ref 229,.none,.ref 230,.ref 231,.ref 232,.int 537 0,.int 197 0,.str (Str.ofString "/claim/cut.py") 538] }:Obj)) ::
 (nat_lit 234,(fn "item_read" sItem "vellum.slipnotes" 479 233:Obj)) ::
 (nat_lit 240,({ cls:=.type "code",data:=.fields #[.str (Str.ofString "slips_read") 540,.str (Str.ofString "slips_read") 541,.str (Str.ofString "/claim/cut.py") 542,.int 208 0,.int 1 0,.int 0 0,.int 0 0,.int 3 0,.ref 235,.bool true,.int 181 0,.ref 236,.none,.ref 237,.ref 238,.ref 239,.int 546 0,.int 208 0,.str (Str.ofString "/claim/cut.py") 547] }:Obj)) ::
 (nat_lit 241,(fn "slips_read" sRd "vellum.slipnotes" 479 240:Obj)) ::
 (nat_lit 247,({ cls:=.type "code",data:=.fields #[.str (Str.ofString "_law_cell_at") 551,.str (Str.ofString "_law_cell_at") 552,.str (Str.ofString "/claim/cut.py") 553,.int 218 0,.int 2 0,.int 0 0,.int 0 0,.int 3 0,.ref 242,.bool true,.int 181 0,.ref 243,.none,.ref 244,.ref 245,.ref 246,.int 556 0,.int 218 0,.str (Str.ofString "/claim/cut.py") 557] }:Obj)) ::
 (nat_lit 248,(fn "_law_cell_at" sCell "law_vellum_k64_whole_slips_by_their_texts" 549 247:Obj)) ::
 (nat_lit 254,({ cls:=.type "code",data:=.fields #[.str (Str.ofString "_law_draw") 559,.str (Str.ofString "_law_draw") 560,.str (Str.ofString "/claim/cut.py") 561,.int 222 0,.int 3 0,.int 0 0,.int 0 0,.int 3 0,.ref 249,.bool true,.int 181 0,.ref 250,.none,.ref 251,.ref 252,.ref 253,.int 567 0,.int 222 0,.str (Str.ofString "/claim/cut.py") 568] }:Obj)) ::
 (nat_lit 255,(fn "_law_draw" sDraw "law_vellum_k64_whole_slips_by_their_texts" 549 254:Obj)) ::
 (nat_lit 261,({ cls:=.type "code",data:=.fields #[.str (Str.ofString "_law_word_by") 570,.str (Str.ofString "_law_word_by") 571,.str (Str.ofString "/claim/cut.py") 572,.int 226 0,.int 2 0,.int 0 0,.int 0 0,.int 3 0,.ref 256,.bool true,.int 181 0,.ref 257,.none,.ref 258,.ref 259,.ref 260,.int 577 0,.int 226 0,.str (Str.ofString "/claim/cut.py") 578] }:Obj)) ::
 (nat_lit 262,(fn "_law_word_by" sWordBy "law_vellum_k64_whole_slips_by_their_texts" 549 261:Obj)) ::
 (nat_lit 266,(co "_law_pool" 580 581 582 231 1 3 263 181 264 265 583 231 584:Obj)) ::
 (nat_lit 267,(fn "_law_pool" sPool "law_vellum_k64_whole_slips_by_their_texts" 549 266:Obj)) ::
 (nat_lit 271,(co "_law_row_by" 586 587 588 236 3 3 268 181 269 270 589 236 590:Obj)) ::
 (nat_lit 272,(fn "_law_row_by" sRowBy "law_vellum_k64_whole_slips_by_their_texts" 549 271:Obj)) ::
 (nat_lit 278,({ cls:=.type "code",data:=.fields #[.str (Str.ofString "_law_copy_by") 592,.str (Str.ofString "_law_copy_by") 593,.str (Str.ofString "/claim/cut.py") 594,.int 238 0,.int 4 0,.int 0 0,.int 0 0,.int 3 0,.ref 273,.bool true,.int 181 0,.ref 274,.none,.ref 275,.ref 276,.ref 277,.int 603 0,.int 238 0,.str (Str.ofString "/claim/cut.py") 604] }:Obj)) ::
 (nat_lit 279,(fn "_law_copy_by" sCopyBy "law_vellum_k64_whole_slips_by_their_texts" 549 278:Obj)) ::
 (nat_lit 285,({ cls:=.type "code",data:=.fields #[.str (Str.ofString "_law_prices_by") 606,.str (Str.ofString "_law_prices_by") 607,.str (Str.ofString "/claim/cut.py") 608,.int 254 0,.int 1 0,.int 0 0,.int 0 0,.int 3 0,.ref 280,.bool true,.int 181 0,.ref 281,.none,.ref 282,.ref 283,.ref 284,.int 613 0,.int 254 0,.str (Str.ofString "/claim/cut.py") 614] }:Obj)) ::
 (nat_lit 286,(fn "_law_prices_by" sPricesBy "law_vellum_k64_whole_slips_by_their_texts" 549 285:Obj)) ::
 (nat_lit 290,(co "_law_same" 616 617 618 260 2 3 287 181 288 289 619 260 620:Obj)) ::
 (nat_lit 291,(fn "_law_same" sSame "law_vellum_k64_whole_slips_by_their_texts" 549 290:Obj)) ::
 (nat_lit 295,(co "_law_alike" 622 623 624 270 2 3 292 181 293 294 625 270 626:Obj)) ::
 (nat_lit 296,(fn "_law_alike" sLAlk "law_vellum_k64_whole_slips_by_their_texts" 549 295:Obj)) ::
 (nat_lit 302,({ cls:=.type "code",data:=.fields #[.str (Str.ofString "_law_written_by") 628,.str (Str.ofString "_law_written_by") 629,.str (Str.ofString "/claim/cut.py") 630,.int 274 0,.int 4 0,.int 0 0,.int 0 0,.int 3 0,.ref 297,.bool true,.int 181 0,.ref 298,.none,.ref 299,.ref 300,.ref 301,.int 635 0,.int 274 0,.str (Str.ofString "/claim/cut.py") 636] }:Obj)) ::
 (nat_lit 303,(fn "_law_written_by" sWB "law_vellum_k64_whole_slips_by_their_texts" 549 302:Obj)) ::
 (nat_lit 309,({ cls:=.type "code",data:=.fields #[.str (Str.ofString "_law_price_of") 638,.str (Str.ofString "_law_price_of") 639,.str (Str.ofString "/claim/cut.py") 640,.int 286 0,.int 4 0,.int 0 0,.int 0 0,.int 3 0,.ref 304,.bool true,.int 181 0,.ref 305,.none,.ref 306,.ref 307,.ref 308,.int 646 0,.int 286 0,.str (Str.ofString "/claim/cut.py") 647] }:Obj)) ::
 (nat_lit 310,(fn "_law_price_of" sPO "law_vellum_k64_whole_slips_by_their_texts" 549 309:Obj)) ::
 (nat_lit 316,({ cls:=.type "code",data:=.fields #[.str (Str.ofString "_law_walked") 649,.str (Str.ofString "_law_walked") 650,.str (Str.ofString "/claim/cut.py") 651,.int 293 0,.int 3 0,.int 0 0,.int 0 0,.int 3 0,.ref 311,.bool true,.int 181 0,.ref 312,.none,.ref 313,.ref 314,.ref 315,.int 660 0,.int 293 0,.str (Str.ofString "/claim/cut.py") 661] }:Obj)) ::
 (nat_lit 317,(fn "_law_walked" sLWk "law_vellum_k64_whole_slips_by_their_texts" 549 316:Obj)) ::
 (nat_lit 323,({ cls:=.type "code",data:=.fields #[.str (Str.ofString "_law_right") 663,.str (Str.ofString "_law_right") 664,.str (Str.ofString "/claim/cut.py") 665,.int 303 0,.int 3 0,.int 0 0,.int 0 0,.int 3 0,.ref 318,.bool true,.int 181 0,.ref 319,.none,.ref 320,.ref 321,.ref 322,.int 671 0,.int 303 0,.str (Str.ofString "/claim/cut.py") 672] }:Obj)) ::
 (nat_lit 324,(fn "_law_right" sRight "law_vellum_k64_whole_slips_by_their_texts" 549 323:Obj)) ::
 (nat_lit 330,({ cls:=.type "code",data:=.fields #[.str (Str.ofString "law") 674,.str (Str.ofString "law") 675,.str (Str.ofString "/claim/cut.py") 676,.int 315 0,.int 1 0,.int 0 0,.int 0 0,.int 3 0,.ref 325,.bool true,.int 181 0,.ref 326,.none,.ref 327,.ref 328,.ref 329,.int 684 0,.int 315 0,.str (Str.ofString "/claim/cut.py") 685] }:Obj)) ::
 (nat_lit 331,(fn "law" sLaw "law_vellum_k64_whole_slips_by_their_texts" 549 330:Obj)) ::
 []
noncomputable def view:Program:={ PySem.Challenge.pw_vellum_k64_whole_slips_by_their_texts with main:={ (PySem.Challenge.pw_vellum_k64_whole_slips_by_their_texts).main with body:=[top 62] } }
abbrev ad:List Addr:=nat_lit 2 :: nat_lit 3 :: nat_lit 23 :: nat_lit 24 :: nat_lit 25 :: nat_lit 36 :: nat_lit 37 :: nat_lit 43 :: nat_lit 44 :: nat_lit 50 :: nat_lit 51 :: nat_lit 55 :: nat_lit 56 :: nat_lit 62 :: nat_lit 63 :: nat_lit 69 :: nat_lit 70 :: nat_lit 71 :: nat_lit 77 :: nat_lit 78 :: nat_lit 84 :: nat_lit 85 :: nat_lit 91 :: nat_lit 92 :: nat_lit 98 :: nat_lit 99 :: nat_lit 105 :: nat_lit 106 :: nat_lit 112 :: nat_lit 113 :: nat_lit 119 :: nat_lit 120 :: nat_lit 126 :: nat_lit 127 :: nat_lit 131 :: nat_lit 132 :: nat_lit 138 :: nat_lit 139 :: nat_lit 143 :: nat_lit 144 :: nat_lit 148 :: nat_lit 149 :: nat_lit 153 :: nat_lit 154 :: nat_lit 158 :: nat_lit 159 :: nat_lit 165 :: nat_lit 166 :: nat_lit 170 :: nat_lit 171 :: nat_lit 177 :: nat_lit 178 :: nat_lit 184 :: nat_lit 185 :: nat_lit 191 :: nat_lit 192 :: nat_lit 193 :: nat_lit 194 :: nat_lit 200 :: nat_lit 201 :: nat_lit 205 :: nat_lit 206 :: nat_lit 212 :: nat_lit 213 :: nat_lit 219 :: nat_lit 220 :: nat_lit 226 :: nat_lit 227 :: nat_lit 233 :: nat_lit 234 :: nat_lit 240 :: nat_lit 241 :: nat_lit 247 :: nat_lit 248 :: nat_lit 254 :: nat_lit 255 :: nat_lit 261 :: nat_lit 262 :: nat_lit 266 :: nat_lit 267 :: nat_lit 271 :: nat_lit 272 :: nat_lit 278 :: nat_lit 279 :: nat_lit 285 :: nat_lit 286 :: nat_lit 290 :: nat_lit 291 :: nat_lit 295 :: nat_lit 296 :: nat_lit 302 :: nat_lit 303 :: nat_lit 309 :: nat_lit 310 :: nat_lit 316 :: nat_lit 317 :: nat_lit 323 :: nat_lit 324 :: nat_lit 330 :: nat_lit 331 :: []
theorem ad_hp:∀ P,ad=(hp P).map (·.1):=fun _=>by kernel_rfl
theorem left_false:∀ w:World,(fun w=>(PySem.W.openEnds PySem.treeTable PySem.Challenge.pw_vellum_k64_whole_slips_by_their_texts w 4164).map (fun s=>(PySem.W.openSeen K64.view [Str.ofString "VellumError",Str.ofString "NoSlips",Str.ofString "LETTERS",Str.ofString "FIGURES",Str.ofString "MOST_LETTERS",Str.ofString "MOST_WORDS",Str.ofString "has_only",Str.ofString "is_word",Str.ofString "looks_alike",Str.ofString "writes_number",Str.ofString "number_of",Str.ofString "LIKE",Str.ofString "PRICE_PLACES",Str.ofString "skip_fits",Str.ofString "step_fits",Str.ofString "words_done",Str.ofString "words_written",Str.ofString "step_after",Str.ofString "steps_walked",Str.ofString "copy_made",Str.ofString "step_price",Str.ofString "slips_price",Str.ofString "swap_writes",Str.ofString "skip_lengths",Str.ofString "knot_ways",Str.ofString "empty_table",Str.ofString "table_told",Str.ofString "price_table",Str.ofString "rest_table",Str.ofString "cheapest_ways",Str.ofString "first_cheapest",Str.ofString "least_slips",Str.ofString "MOST_STEPS",Str.ofString "BARE_KINDS",Str.ofString "WORD_KINDS",Str.ofString "keeps_written",Str.ofString "step_written",Str.ofString "slips_written",Str.ofString "count_read",Str.ofString "pair_read",Str.ofString "item_read",Str.ofString "slips_read",Str.ofString "_law_cell_at",Str.ofString "_law_draw",Str.ofString "_law_word_by",Str.ofString "_law_pool",Str.ofString "_law_row_by",Str.ofString "_law_copy_by",Str.ofString "_law_prices_by",Str.ofString "_law_same",Str.ofString "_law_alike",Str.ofString "_law_written_by",Str.ofString "_law_price_of",Str.ofString "_law_walked",Str.ofString "_law_right"] (importedModules (PySem.Challenge.pw_vellum_k64_whole_slips_by_their_texts).main.body) (fun s=>PySem.W.xlAt K64.view [] s && PySem.W.recOk (PySem.W.RowW.records (PySem.W.OpenRow.toRowW PySem.Challenge.rw_vellum_k64_whole_slips_by_their_texts.row)) s) true s,PySem.W.Hook.obs (PySem.W.kHook K64.hp K64.ad K64.ad_hp) s))=some (PySem.W.openGood K64.view [Str.ofString "VellumError",Str.ofString "NoSlips",Str.ofString "LETTERS",Str.ofString "FIGURES",Str.ofString "MOST_LETTERS",Str.ofString "MOST_WORDS",Str.ofString "has_only",Str.ofString "is_word",Str.ofString "looks_alike",Str.ofString "writes_number",Str.ofString "number_of",Str.ofString "LIKE",Str.ofString "PRICE_PLACES",Str.ofString "skip_fits",Str.ofString "step_fits",Str.ofString "words_done",Str.ofString "words_written",Str.ofString "step_after",Str.ofString "steps_walked",Str.ofString "copy_made",Str.ofString "step_price",Str.ofString "slips_price",Str.ofString "swap_writes",Str.ofString "skip_lengths",Str.ofString "knot_ways",Str.ofString "empty_table",Str.ofString "table_told",Str.ofString "price_table",Str.ofString "rest_table",Str.ofString "cheapest_ways",Str.ofString "first_cheapest",Str.ofString "least_slips",Str.ofString "MOST_STEPS",Str.ofString "BARE_KINDS",Str.ofString "WORD_KINDS",Str.ofString "keeps_written",Str.ofString "step_written",Str.ofString "slips_written",Str.ofString "count_read",Str.ofString "pair_read",Str.ofString "item_read",Str.ofString "slips_read",Str.ofString "_law_cell_at",Str.ofString "_law_draw",Str.ofString "_law_word_by",Str.ofString "_law_pool",Str.ofString "_law_row_by",Str.ofString "_law_copy_by",Str.ofString "_law_prices_by",Str.ofString "_law_same",Str.ofString "_law_alike",Str.ofString "_law_written_by",Str.ofString "_law_price_of",Str.ofString "_law_walked",Str.ofString "_law_right"],PySem.W.Hook.val (PySem.W.kHook K64.hp K64.ad K64.ad_hp) w)) (w.withFollow "special-get-raises" false):=fun w=>by kernel_rfl
theorem left_true:∀ w:World,(fun w=>(PySem.W.openEnds PySem.treeTable PySem.Challenge.pw_vellum_k64_whole_slips_by_their_texts w 4164).map (fun s=>(PySem.W.openSeen K64.view [Str.ofString "VellumError",Str.ofString "NoSlips",Str.ofString "LETTERS",Str.ofString "FIGURES",Str.ofString "MOST_LETTERS",Str.ofString "MOST_WORDS",Str.ofString "has_only",Str.ofString "is_word",Str.ofString "looks_alike",Str.ofString "writes_number",Str.ofString "number_of",Str.ofString "LIKE",Str.ofString "PRICE_PLACES",Str.ofString "skip_fits",Str.ofString "step_fits",Str.ofString "words_done",Str.ofString "words_written",Str.ofString "step_after",Str.ofString "steps_walked",Str.ofString "copy_made",Str.ofString "step_price",Str.ofString "slips_price",Str.ofString "swap_writes",Str.ofString "skip_lengths",Str.ofString "knot_ways",Str.ofString "empty_table",Str.ofString "table_told",Str.ofString "price_table",Str.ofString "rest_table",Str.ofString "cheapest_ways",Str.ofString "first_cheapest",Str.ofString "least_slips",Str.ofString "MOST_STEPS",Str.ofString "BARE_KINDS",Str.ofString "WORD_KINDS",Str.ofString "keeps_written",Str.ofString "step_written",Str.ofString "slips_written",Str.ofString "count_read",Str.ofString "pair_read",Str.ofString "item_read",Str.ofString "slips_read",Str.ofString "_law_cell_at",Str.ofString "_law_draw",Str.ofString "_law_word_by",Str.ofString "_law_pool",Str.ofString "_law_row_by",Str.ofString "_law_copy_by",Str.ofString "_law_prices_by",Str.ofString "_law_same",Str.ofString "_law_alike",Str.ofString "_law_written_by",Str.ofString "_law_price_of",Str.ofString "_law_walked",Str.ofString "_law_right"] (importedModules (PySem.Challenge.pw_vellum_k64_whole_slips_by_their_texts).main.body) (fun s=>PySem.W.xlAt K64.view [] s && PySem.W.recOk (PySem.W.RowW.records (PySem.W.OpenRow.toRowW PySem.Challenge.rw_vellum_k64_whole_slips_by_their_texts.row)) s) true s,PySem.W.Hook.obs (PySem.W.kHook K64.hp K64.ad K64.ad_hp) s))=some (PySem.W.openGood K64.view [Str.ofString "VellumError",Str.ofString "NoSlips",Str.ofString "LETTERS",Str.ofString "FIGURES",Str.ofString "MOST_LETTERS",Str.ofString "MOST_WORDS",Str.ofString "has_only",Str.ofString "is_word",Str.ofString "looks_alike",Str.ofString "writes_number",Str.ofString "number_of",Str.ofString "LIKE",Str.ofString "PRICE_PLACES",Str.ofString "skip_fits",Str.ofString "step_fits",Str.ofString "words_done",Str.ofString "words_written",Str.ofString "step_after",Str.ofString "steps_walked",Str.ofString "copy_made",Str.ofString "step_price",Str.ofString "slips_price",Str.ofString "swap_writes",Str.ofString "skip_lengths",Str.ofString "knot_ways",Str.ofString "empty_table",Str.ofString "table_told",Str.ofString "price_table",Str.ofString "rest_table",Str.ofString "cheapest_ways",Str.ofString "first_cheapest",Str.ofString "least_slips",Str.ofString "MOST_STEPS",Str.ofString "BARE_KINDS",Str.ofString "WORD_KINDS",Str.ofString "keeps_written",Str.ofString "step_written",Str.ofString "slips_written",Str.ofString "count_read",Str.ofString "pair_read",Str.ofString "item_read",Str.ofString "slips_read",Str.ofString "_law_cell_at",Str.ofString "_law_draw",Str.ofString "_law_word_by",Str.ofString "_law_pool",Str.ofString "_law_row_by",Str.ofString "_law_copy_by",Str.ofString "_law_prices_by",Str.ofString "_law_same",Str.ofString "_law_alike",Str.ofString "_law_written_by",Str.ofString "_law_price_of",Str.ofString "_law_walked",Str.ofString "_law_right"],PySem.W.Hook.val (PySem.W.kHook K64.hp K64.ad K64.ad_hp) w)) (w.withFollow "special-get-raises" true):=fun w=>by kernel_rfl
theorem left:PySem.W.LeftO PySem.Challenge.pw_vellum_k64_whole_slips_by_their_texts view [Str.ofString "VellumError",Str.ofString "NoSlips",Str.ofString "LETTERS",Str.ofString "FIGURES",Str.ofString "MOST_LETTERS",Str.ofString "MOST_WORDS",Str.ofString "has_only",Str.ofString "is_word",Str.ofString "looks_alike",Str.ofString "writes_number",Str.ofString "number_of",Str.ofString "LIKE",Str.ofString "PRICE_PLACES",Str.ofString "skip_fits",Str.ofString "step_fits",Str.ofString "words_done",Str.ofString "words_written",Str.ofString "step_after",Str.ofString "steps_walked",Str.ofString "copy_made",Str.ofString "step_price",Str.ofString "slips_price",Str.ofString "swap_writes",Str.ofString "skip_lengths",Str.ofString "knot_ways",Str.ofString "empty_table",Str.ofString "table_told",Str.ofString "price_table",Str.ofString "rest_table",Str.ofString "cheapest_ways",Str.ofString "first_cheapest",Str.ofString "least_slips",Str.ofString "MOST_STEPS",Str.ofString "BARE_KINDS",Str.ofString "WORD_KINDS",Str.ofString "keeps_written",Str.ofString "step_written",Str.ofString "slips_written",Str.ofString "count_read",Str.ofString "pair_read",Str.ofString "item_read",Str.ofString "slips_read",Str.ofString "_law_cell_at",Str.ofString "_law_draw",Str.ofString "_law_word_by",Str.ofString "_law_pool",Str.ofString "_law_row_by",Str.ofString "_law_copy_by",Str.ofString "_law_prices_by",Str.ofString "_law_same",Str.ofString "_law_alike",Str.ofString "_law_written_by",Str.ofString "_law_price_of",Str.ofString "_law_walked",Str.ofString "_law_right"] (fun s=>PySem.W.xlAt K64.view [] s && PySem.W.recOk (PySem.W.RowW.records (PySem.W.OpenRow.toRowW PySem.Challenge.rw_vellum_k64_whole_slips_by_their_texts.row)) s) (PySem.W.Hook.obs (PySem.W.kHook K64.hp K64.ad K64.ad_hp)) (PySem.W.Hook.val (PySem.W.kHook K64.hp K64.ad K64.ad_hp)) 4164:=
 PySem.W.byRow2 (P:=fun w=>(PySem.W.openEnds PySem.treeTable PySem.Challenge.pw_vellum_k64_whole_slips_by_their_texts w 4164).map (fun s=>(PySem.W.openSeen K64.view [Str.ofString "VellumError",Str.ofString "NoSlips",Str.ofString "LETTERS",Str.ofString "FIGURES",Str.ofString "MOST_LETTERS",Str.ofString "MOST_WORDS",Str.ofString "has_only",Str.ofString "is_word",Str.ofString "looks_alike",Str.ofString "writes_number",Str.ofString "number_of",Str.ofString "LIKE",Str.ofString "PRICE_PLACES",Str.ofString "skip_fits",Str.ofString "step_fits",Str.ofString "words_done",Str.ofString "words_written",Str.ofString "step_after",Str.ofString "steps_walked",Str.ofString "copy_made",Str.ofString "step_price",Str.ofString "slips_price",Str.ofString "swap_writes",Str.ofString "skip_lengths",Str.ofString "knot_ways",Str.ofString "empty_table",Str.ofString "table_told",Str.ofString "price_table",Str.ofString "rest_table",Str.ofString "cheapest_ways",Str.ofString "first_cheapest",Str.ofString "least_slips",Str.ofString "MOST_STEPS",Str.ofString "BARE_KINDS",Str.ofString "WORD_KINDS",Str.ofString "keeps_written",Str.ofString "step_written",Str.ofString "slips_written",Str.ofString "count_read",Str.ofString "pair_read",Str.ofString "item_read",Str.ofString "slips_read",Str.ofString "_law_cell_at",Str.ofString "_law_draw",Str.ofString "_law_word_by",Str.ofString "_law_pool",Str.ofString "_law_row_by",Str.ofString "_law_copy_by",Str.ofString "_law_prices_by",Str.ofString "_law_same",Str.ofString "_law_alike",Str.ofString "_law_written_by",Str.ofString "_law_price_of",Str.ofString "_law_walked",Str.ofString "_law_right"] (importedModules (PySem.Challenge.pw_vellum_k64_whole_slips_by_their_texts).main.body) (fun s=>PySem.W.xlAt K64.view [] s && PySem.W.recOk (PySem.W.RowW.records (PySem.W.OpenRow.toRowW PySem.Challenge.rw_vellum_k64_whole_slips_by_their_texts.row)) s) true s,PySem.W.Hook.obs (PySem.W.kHook K64.hp K64.ad K64.ad_hp) s))=some (PySem.W.openGood K64.view [Str.ofString "VellumError",Str.ofString "NoSlips",Str.ofString "LETTERS",Str.ofString "FIGURES",Str.ofString "MOST_LETTERS",Str.ofString "MOST_WORDS",Str.ofString "has_only",Str.ofString "is_word",Str.ofString "looks_alike",Str.ofString "writes_number",Str.ofString "number_of",Str.ofString "LIKE",Str.ofString "PRICE_PLACES",Str.ofString "skip_fits",Str.ofString "step_fits",Str.ofString "words_done",Str.ofString "words_written",Str.ofString "step_after",Str.ofString "steps_walked",Str.ofString "copy_made",Str.ofString "step_price",Str.ofString "slips_price",Str.ofString "swap_writes",Str.ofString "skip_lengths",Str.ofString "knot_ways",Str.ofString "empty_table",Str.ofString "table_told",Str.ofString "price_table",Str.ofString "rest_table",Str.ofString "cheapest_ways",Str.ofString "first_cheapest",Str.ofString "least_slips",Str.ofString "MOST_STEPS",Str.ofString "BARE_KINDS",Str.ofString "WORD_KINDS",Str.ofString "keeps_written",Str.ofString "step_written",Str.ofString "slips_written",Str.ofString "count_read",Str.ofString "pair_read",Str.ofString "item_read",Str.ofString "slips_read",Str.ofString "_law_cell_at",Str.ofString "_law_draw",Str.ofString "_law_word_by",Str.ofString "_law_pool",Str.ofString "_law_row_by",Str.ofString "_law_copy_by",Str.ofString "_law_prices_by",Str.ofString "_law_same",Str.ofString "_law_alike",Str.ofString "_law_written_by",Str.ofString "_law_price_of",Str.ofString "_law_walked",Str.ofString "_law_right"],PySem.W.Hook.val (PySem.W.kHook K64.hp K64.ad K64.ad_hp) w)) "special-get-raises" left_false left_true
theorem said0:PySem.W.OpenLaw.wellSaid PySem.Challenge.rw_vellum_k64_whole_slips_by_their_texts=true:=by kernel_rfl
end K64
namespace L2
open PySem PySem.Spec PyProof.Rows
abbrev Key:=Sum Int Str
def keyIs:Key->Value->Bool
 | .inl k,v=>Value.isInt k v
 | .inr x,v=>Value.isStrOf x v
def keyH (w:World):Key->Int
 | .inl k=>hashInt k
 | .inr x=>hashStr w x
theorem keyIs_shape:∀ {k:Key} {v:Value},keyIs k v=true->(∃ i t,k=Sum.inl i/\v=Value.int i t)\/(∃ x t,k=Sum.inr x/\v=Value.str x t)
 | .inl i,v,h=>by
  obtain ⟨t,e⟩:=Value.isInt_shape (k:=i) (v:=v) h
  exact .inl ⟨i,t,rfl,e⟩
 | .inr x,v,h=>by
  obtain ⟨t,e⟩:=Value.isStrOf_shape (x:=x) (v:=v) h
  exact .inr ⟨x,t,rfl,e⟩
theorem key_ll (a b:Int):decide ((Sum.inl a:Key)=Sum.inl b)=(a == b):=by
 by_cases e:a=b
 ·subst e;simp
 ·have h:¬ (Sum.inl a:Key)=Sum.inl b:=fun q=>e (Sum.inl.inj q)
  rw [decide_eq_false h]
  exact (beq_eq_false_iff_ne.mpr e).symm
theorem key_rr (a b:Str):decide ((Sum.inr a:Key)=Sum.inr b)=decide (a=b):=by
 by_cases e:a=b
 ·subst e;simp
 ·have h:¬ (Sum.inr a:Key)=Sum.inr b:=fun q=>e (Sum.inr.inj q)
  rw [decide_eq_false h,decide_eq_false e]
theorem key_lr (a:Int) (b:Str):decide ((Sum.inl a:Key)=Sum.inr b)=false:=decide_eq_false (fun q=>nomatch q)
theorem key_rl (a:Str) (b:Int):decide ((Sum.inr a:Key)=Sum.inl b)=false:=decide_eq_false (fun q=>nomatch q)
def mixKind (prog:Program) (w:World):PySem.KeyKind prog w Key where
 is:=keyIs
 hash:=keyH w
 inj:=fun v a b ha hb=>by
  rcases keyIs_shape ha with ⟨i,t,rfl,rfl⟩ | ⟨x,t,rfl,rfl⟩
  ·rcases keyIs_shape hb with ⟨j,u,rfl,e⟩ | ⟨y,u,rfl,e⟩
   ·injection e with e1 _;rw [e1]
   ·exact nomatch e
  ·rcases keyIs_shape hb with ⟨j,u,rfl,e⟩ | ⟨y,u,rfl,e⟩
   ·exact nomatch e
   ·injection e with e1 _;rw [e1]
 byValue:=fun k v h=>by
  rcases keyIs_shape h with ⟨i,t,rfl,rfl⟩ | ⟨x,t,rfl,rfl⟩ <;> rfl
 pyHash:=fun hv h=>by
  rcases keyIs_shape hv with ⟨i,t,rfl,rfl⟩ | ⟨x,t,rfl,rfl⟩
  ·exact wpAny_pyHash_int h
  ·exact wpAny_pyHash_str h
 eqBool:=fun hu hv h=>by
  rcases keyIs_shape hu with ⟨i,t,rfl,rfl⟩ | ⟨x,t,rfl,rfl⟩
  ·rcases keyIs_shape hv with ⟨j,u,rfl,rfl⟩ | ⟨y,u,rfl,rfl⟩
   ·rw [key_ll] at h;exact wpAny_eqBool_int h
   ·rw [key_lr] at h;exact SeqAt.EqAt.int_str i t y u _ _ _ _ h
  ·rcases keyIs_shape hv with ⟨j,u,rfl,rfl⟩ | ⟨y,u,rfl,rfl⟩
   ·rw [key_rl] at h;exact SeqAt.EqAt.str_int x t j u _ _ _ _ h
   ·rw [key_rr] at h;exact wpAny_eqBool_str h
 «strs»:=fun k x t v h=>by
  rcases keyIs_shape h with ⟨i,u,rfl,e⟩ | ⟨y,u,rfl,e⟩
  ·exact nomatch e
  ·injection e with e1 _
   subst e1
   cases v <;> rfl
end L2
namespace L2
open PySem PySem.Spec PyProof.Rows
inductive V where
 | non | bl (b:Bool) | int (i:Int) | str (x:Str) | byt (b:Array UInt8) | flt (b:UInt64) | ref (a:Addr) | ty (n:String)
 deriving DecidableEq
def RelV:V->Value->Prop
 | .non,u=>u=Value.none
 | .bl b,u=>u=Value.bool b
 | .int i,u=>∃ t,u=Value.int i t
 | .str x,u=>∃ t,u=Value.str x t
 | .byt b,u=>∃ t,u=Value.bytes b t
 | .flt b,u=>∃ t,u=Value.float b t
 | .ref a,u=>u=Value.ref a
 | .ty n,u=>u=Value.type n
abbrev Vals:List V->List Value->Prop:=Paired RelV
theorem Vals.length {xs:List V} {us:List Value} (r:Vals xs us):xs.length=us.length:=Paired.length r
theorem Vals.get:∀ {xs:List V} {us:List Value} {i:Nat} {x:V},Vals xs us->xs[i]?=some x->∃ u,us[i]?=some u/\RelV x u
 | _,_,_,_,.nil,e=>by simp at e
 | _,_,0,_,.cons r _,e=>by simp at e;subst e;exact ⟨_,rfl,r⟩
 | _,_,i+1,x,.cons _ t,e=>by
  obtain ⟨u,h1,h2⟩:=Vals.get (i:=i) (x:=x) t (by simpa using e)
  exact ⟨u,by simpa using h1,h2⟩
theorem Vals.set {x:V} {u:Value} (r:RelV x u):∀ {xs:List V} {us:List Value} (i:Nat),Vals xs us->Vals (xs.set i x) (us.set i u)
 | _,_,_,.nil=>.nil
 | _,_,0,.cons _ t=>.cons r t
 | _,_,i+1,.cons q t=>.cons q (Vals.set r i t)
theorem Vals.append:∀ {xs ys:List V} {us ws:List Value},Vals xs us->Vals ys ws->Vals (xs++ys) (us++ws)
 | _,_,_,_,.nil,s=>s
 | _,_,_,_,.cons r t,s=>.cons r (Vals.append t s)
theorem Vals.take:∀ {xs:List V} {us:List Value} (n:Nat),Vals xs us->Vals (xs.take n) (us.take n)
 | _,_,0,_=>.nil
 | _,_,_+1,.nil=>.nil
 | _,_,n+1,.cons r t=>.cons r (Vals.take n t)
theorem Vals.drop:∀ {xs:List V} {us:List Value} (n:Nat),Vals xs us->Vals (xs.drop n) (us.drop n)
 | _,_,0,r=>r
 | _,_,_+1,.nil=>.nil
 | _,_,n+1,.cons _ t=>Vals.drop n t
def RelO:Option V->Option Value->Prop
 | some v,some u=>RelV v u
 | none,none=>True
 | _,_=>False
def KV {κ:Type}:List (κ × V)->List (κ × Value)->Prop:=Paired fun (p:κ × V) (q:κ × Value)=>p.1=q.1/\RelV p.2 q.2
inductive HO where
 /-- a list -/
 | lst (xs:List V)
 /-- a tuple (never changes) -/
 | tup (xs:List V)
 /-- a dict whose keys are ints and texts;one whose keys are tuples of ints and texts (the empty one is both) -/
 | dK (kvs:List (Key × V)) | dT (kvs:List (List Key × V))
 /-- a set of ints: its members,its size -/
 | set (S:Int->Bool) (n:Nat)
 /-- an instance of the class at C,its dict at dx,its attributes -/
 | ins (C dx:Addr) (fs:List (Str × V))
 /-- the dict of the instance at x -/
 | own (x:Addr)
 /-- the dict of an exception -/
 | xd (fs:List (Str × V))
 /-- a bound method,f of x -/
 | met (f x:Addr)
 /-- a range object lo,lo+1, .. below hi -/
 | rng (lo hi:Int)
 /-- a thing that is known to the object (the script;a dict while a loop walks it): read,never written while it is so -/
 | frz (o:Obj) (u:HO)
 /-- a code object's table -/
 | tbl (ps:Array Value)
 /-- any other thing,by what is true of its one object (a def of one's own: SetO a S n:=HO.ext fun h=>..) -/
 | ext (φ:Heap->Prop)
abbrev Hp:=Addr->Option HO
def upd (H:Hp) (a:Addr) (o:HO):Hp:=fun b=>if b=a then some o else H b
theorem upd_same {H:Hp} {a:Addr} {o:HO}:upd H a o a=some o:=by unfold upd;rw [if_pos rfl]
theorem upd_ne {H:Hp} {a b:Addr} {o:HO} (h:b ≠ a):upd H a o b=H b:=by unfold upd;rw [if_neg h]
theorem ne_of {H:Hp} {a b:Addr} {o u:HO} (h:H a=some o) (h':H b=some u) (d:o ≠ u):a ≠ b:=by
 intro e;subst e;rw [h] at h';exact d (Option.some.inj h')
theorem ne_of_none {H:Hp} {a b:Addr} {o:HO} (h:H a=some o) (h':H b=none):a ≠ b:=by
 intro e;subst e;rw [h] at h';cases h'
section
variable (P:Program) (w:World)
def ObjOk (H:Hp) (h:Heap) (a:Addr):HO->Prop
 | .lst xs=>xs.length<=sizeLine/\∃ (its:List Value) (n:Nat),Vals xs its/\h.get? a=some { cls:=.type "list",data:=.seq its.toArray n }
 | .tup xs=>xs.length<=sizeLine/\∃ its:List Value,Vals xs its/\IsTup h a its.toArray
 | .dK kvs=>kvs.length<=sizeLine/\(a == sysModules)=false/\∃ vs,KV kvs vs/\h.DictOf (mixKind P w) a vs
 | .dT _=>False
 | .set S n=>h.SetOf (intKind P w) a S n
 | .ins C dx fs=>H dx=some (.own a)/\fs.length<=1000/\dx ≠ a/\h.get? a=some (PySem.W.instObj C dx) ∧
   ∃ mA,h.Ns1 dx mA/\(∀ f,RelO (fs.lookup f) (mA f))/\PySem.Within mA (fs.map (·.1))
 | .own _=>∃ o,h.get? a=some o
 | .xd fs=>∃ mA,h.Ns1 a mA/\∀ f,RelO (fs.lookup f) (mA f)
 | .rng lo hi=>∃ t u v,h.get? a=some { cls:=.type "range",data:=.fields #[.int lo t,.int hi u,.int 1 v] }
 | .frz o u=>h.get? a=some o/\ObjOk H h a u
 | .tbl ps=>h.get? a=some { cls:=.none,data:=.fields ps }
 | .met f x=>h.get? a=some (PySem.W.methodObj (.ref f) (.ref x))
 | .ext φ=>φ h/\(∃ o,h.get? a=some o)/\∀ h1 h2:Heap,φ h1->(∀ o,h1.get? a=some o->h2.get? a=some o)->φ h2
def HOk (H:Hp) (h:Heap):Prop:=∀ a o,H a=some o->ObjOk P w H h a o
end
section
variable {P:Program} {w:World} {H H':Hp} {h h':Heap} {a:Addr} {o:HO}
theorem ObjOk.lt (x:ObjOk P w H h a o):a < h.objs.size:=by
 cases o with
 | lst xs=>obtain ⟨_,_,_,_,e⟩:=x;exact Heap.lt_size e
 | tup xs=>obtain ⟨_,_,_,p⟩:=x;exact p.lt
 | dK kvs=>obtain ⟨_,_,_,_,o,_,_,e,_⟩:=x;exact Heap.lt_size e
 | dT kvs=>exact False.elim x
 | set S n=>obtain ⟨o,_,_,_,e,_⟩:=x;exact Heap.lt_size e
 | ins C dx fs=>obtain ⟨_,_,_,e,_⟩:=x;exact Heap.lt_size e
 | own y=>obtain ⟨_,e⟩:=x;exact Heap.lt_size e
 | xd fs=>obtain ⟨_,⟨_,_,_,e,_⟩,_⟩:=x;exact Heap.lt_size e
 | rng lo hi=>obtain ⟨_,_,_,e⟩:=x;exact Heap.lt_size e
 | frz ob u=>obtain ⟨e,_⟩:=x;exact Heap.lt_size e
 | tbl ps=>exact Heap.lt_size (show h.get? a=some _ from x)
 | met f y=>exact Heap.lt_size (show h.get? a=some _ from x)
 | ext φ=>obtain ⟨_,⟨_,e⟩,_⟩:=x;exact Heap.lt_size e
theorem ObjOk.stay (x:ObjOk P w H h a o) (k:∀ b u,(b=a\/H b=some (.own a))->h.get? b=some u->h'.get? b=some u)
  (ho:∀ b,H b=some (.own a)->H' b=some (.own a)) (ht:∀ b xs,H b=some (.tup xs)->H' b=some (.tup xs)):ObjOk P w H' h' a o:=by
 induction o with
 | lst xs=>obtain ⟨z,its,n,r,e⟩:=x;exact ⟨z,its,n,r,k _ _ (.inl rfl) e⟩
 | tup xs=>obtain ⟨z,its,r,ob,e,c⟩:=x;exact ⟨z,its,r,ob,k _ _ (.inl rfl) e,c⟩
 | dK kvs=>obtain ⟨z,y,vs,r,ob,es,ep,e,c⟩:=x;exact ⟨z,y,vs,r,ob,es,ep,k _ _ (.inl rfl) e,c⟩
 | dT kvs=>exact False.elim x
 | set S n=>obtain ⟨ob,es,ep,t,e,c⟩:=x;exact ⟨ob,es,ep,t,k _ _ (.inl rfl) e,c⟩
 | ins C dx fs=>
  obtain ⟨d,z,ne,e,mA,⟨od,es,ep,e2,c⟩,r⟩:=x
  exact ⟨ho _ d,z,ne,k _ _ (.inl rfl) e,mA,⟨od,es,ep,k _ _ (.inr d) e2,c⟩,r⟩
 | own y=>obtain ⟨ob,e⟩:=x;exact ⟨ob,k _ _ (.inl rfl) e⟩
 | xd fs=>obtain ⟨mA,⟨od,es,ep,e,c⟩,r⟩:=x;exact ⟨mA,⟨od,es,ep,k _ _ (.inl rfl) e,c⟩,r⟩
 | rng lo hi=>obtain ⟨t,u,v,e⟩:=x;exact ⟨t,u,v,k _ _ (.inl rfl) e⟩
 | frz ob u ih=>obtain ⟨e,q⟩:=x;exact ⟨k _ _ (.inl rfl) e,ih q⟩
 | tbl ps=>
  have e:h.get? a=some { cls:=.none,data:=.fields ps }:=x
  show h'.get? a=some { cls:=.none,data:=.fields ps }
  exact k a _ (.inl rfl) e
 | met f y=>
  have e:h.get? a=some (PySem.W.methodObj (.ref f) (.ref y)):=x
  show h'.get? a=some (PySem.W.methodObj (.ref f) (.ref y))
  exact k a _ (.inl rfl) e
 | ext φ=>obtain ⟨p,⟨o,e⟩,st⟩:=x;exact ⟨st _ _ p fun o q=>k _ _ (.inl rfl) q,⟨o,k _ _ (.inl rfl) e⟩,st⟩
theorem HOk.lt (x:HOk P w H h) (e:H a=some o):a < h.objs.size:=(x a o e).lt
theorem HOk.fresh (x:HOk P w H h) (e:h.objs.size<=a):H a=none:=by
 cases q:H a with
 | none=>rfl
 | some u=>exact absurd (Nat.lt_of_lt_of_le (x.lt q) e) (Nat.lt_irrefl _)
theorem HOk.kept (x:HOk P w H h) (k:∀ b u,h.get? b=some u->h'.get? b=some u):HOk P w H h':=fun a o e=>
 (x a o e).stay (fun b u _ q=>k b u q) (fun _ q=>q) fun _ _ q=>q
theorem HOk.laid (x:HOk P w H h) (k:∀ b u,h.get? b=some u->h'.get? b=some u) (hp:h.objs.size<=a) (new:ObjOk P w (upd H a o) h' a o):HOk P w (upd H a o) h':=fun b u e=>by
 have hn:=x.fresh hp
 by_cases hb:b=a
 ·subst hb;rw [upd_same] at e;cases e;exact new
 ·rw [upd_ne hb] at e
  exact (x b u e).stay (fun c v _ q=>k c v q) (fun c q=>by rw [upd_ne (ne_of_none q hn)];exact q) fun c xs q=>by rw [upd_ne (ne_of_none q hn)];exact q
end
def Rd (H:Hp) (a:Addr) (u:HO):Prop:=H a=some u\/∃ o,H a=some (.frz o u)
theorem Rd.ok {P:Program} {w:World} {H:Hp} {h:Heap} {a:Addr} {u:HO} (r:Rd H a u) (x:HOk P w H h):ObjOk P w H h a u:=by
 rcases r with r | ⟨o,r⟩
 ·exact x a u r
 ·obtain ⟨_,q⟩:=x a _ r
  exact q
def Mut:Option HO->Prop
 | some (.lst _)=>True
 | some (.dK _)=>True
 | some (.dT _)=>True
 | some (.set _ _)=>True
 | some (.ins _ _ _)=>True
 | some (.ext _)=>True
 | _=>False
section
variable {P:Program} {w:World} {H:Hp} {h h':Heap} {x e:Addr} {o':HO}
theorem HOk.write (ok:HOk P w H h) (mu:Mut (H x)) (he:e=x\/H e=some (.own x)) (k:∀ b u,b ≠ e->h.get? b=some u->h'.get? b=some u) (heo:∃ u,h'.get? e=some u)
  (new:ObjOk P w (upd H x o') h' x o'):HOk P w (upd H x o') h':=fun b u q=>by
 have nown:∀ c y,H c=some (.own y)->c ≠ x:=fun c y r z=>by subst z;rw [r] at mu;exact mu
 have ntup:∀ c xs,H c=some (.tup xs)->c ≠ x:=fun c xs r z=>by subst z;rw [r] at mu;exact mu
 by_cases hb:b=x
 ·subst hb;rw [upd_same] at q;cases q;exact new
 ·rw [upd_ne hb] at q
  by_cases hbe:b=e
  ·have q':H b=some (.own x):=by
    rcases he with z | z
    ·exact absurd (hbe.trans z) hb
    ·rw [hbe];exact z
   rw [q] at q';cases q'
   obtain ⟨v,hv⟩:=heo
   exact ⟨v,by rw [hbe];exact hv⟩
  ·refine (ok b u q).stay (fun c v hc r=>k c v ?_ r) (fun c r=>by rw [upd_ne (nown c b r)];exact r) fun c xs r=>by rw [upd_ne (ntup c xs r)];exact r
   rcases hc with rfl | hc
   ·exact hbe
   ·rintro rfl
    rcases he with z | z
    ·exact nown c b hc z
    ·rw [hc] at z;cases z;exact hb rfl
end
structure Un (fs ex:List Addr) (H H':Hp) (h h':Heap):Prop where
 keep:∀ b o,h.get? b=some o->H b=none->b ∉ fs->b ∉ ex->h'.get? b=some o
 slot:∀ b o,h.get? b=some o->H b=none->b ∈ fs->b ∉ ex->∃ sl,h'.get? b=some { o with slots:=sl }
 free:∀ b o,h.get? b=some o->H b=none->b ∉ ex->H' b=none
 there:∀ b o,h.get? b=some o->b ∉ ex->∃ o',h'.get? b=some o'
 tups:∀ b xs,H b=some (.tup xs)->H' b=some (.tup xs)
 frzs:∀ b o u,H b=some (.frz o u)->H' b=some (.frz o u)
 tbls:∀ b ps,H b=some (.tbl ps)->∃ more,H' b=some (.tbl (ps++more))
section
variable {fs fs' ex ex':List Addr} {H H1 H2:Hp} {h h1 h2 h':Heap} {a x e:Addr} {o:HO}
theorem Un.any (u:Un fs ex H H1 h h1) {b:Addr} {ob:Obj} (q:h.get? b=some ob) (n:H b=none) (hx:b ∉ ex):∃ sl,h1.get? b=some { ob with slots:=sl }:=by
 by_cases hb:b ∈ fs
 ·exact u.slot b ob q n hb hx
 ·exact ⟨ob.slots,u.keep b ob q n hb hx⟩
theorem Un.kept (k:∀ b u,h.get? b=some u->h'.get? b=some u):Un fs ex H H h h':=
 ⟨fun b ob q _ _ _=>k b ob q,fun b ob q _ _ _=>⟨ob.slots,k b ob q⟩,fun _ _ _ n _=>n,fun b ob q _=>⟨ob,k b ob q⟩,fun _ _ q=>q,fun _ _ _ q=>q,fun _ ps q=>⟨#[],by rw [q];simp⟩⟩
theorem Un.refl:Un fs ex H H h h:=Un.kept fun _ _ q=>q
theorem Un.laid (k:∀ b u,h.get? b=some u->h'.get? b=some u) (hp:h.objs.size<=a) (hn:H a=none):Un fs ex H (upd H a o) h h' where
 keep:=fun b u q _ _ _=>k b u q
 slot:=fun b u q _ _ _=>⟨u.slots,k b u q⟩
 free:=fun b u q n _=>by rw [upd_ne (Nat.ne_of_lt (Nat.lt_of_lt_of_le (Heap.lt_size q) hp))];exact n
 there:=fun b u q _=>⟨u,k b u q⟩
 tups:=fun b xs q=>by rw [upd_ne (ne_of_none q hn)];exact q
 frzs:=fun b u xs q=>by rw [upd_ne (ne_of_none q hn)];exact q
 tbls:=fun b ps q=>⟨#[],by rw [upd_ne (ne_of_none q hn),q];simp⟩
theorem Un.write (mu:Mut (H x)) (he:e=x\/H e=some (.own x)) (k:∀ b u,b ≠ e->h.get? b=some u->h'.get? b=some u) (heo:∃ u,h'.get? e=some u):Un fs ex H (upd H x o) h h':=by
 have hx:∀ b,H b=none->b ≠ x:=fun b n z=>by subst z;rw [n] at mu;exact mu
 have hb:∀ b,H b=none->b ≠ e:=fun b n z=>by
  subst z
  rcases he with r | r
  ·exact hx b n r
  ·rw [n] at r;cases r
 have hm:∀ b u,H b=some u->¬ Mut (some u)->b ≠ x:=fun b u q nm z=>by subst z;rw [q] at mu;exact nm mu
 refine ⟨fun b u q n _ _=>k b u (hb b n) q,fun b u q n _ _=>⟨u.slots,k b u (hb b n) q⟩,fun b u q n _=>by rw [upd_ne (hx b n)];exact n,fun b u q _=>?_,
  fun b xs q=>by rw [upd_ne (hm b _ q fun z=>z)];exact q,fun b u xs q=>by rw [upd_ne (hm b _ q fun z=>z)];exact q,fun b ps q=>⟨#[],by rw [upd_ne (hm b _ q fun z=>z),q];simp⟩⟩
 by_cases hbe:b=e
 ·subst hbe;exact heo
 ·exact ⟨u,k b u hbe q⟩
end
def trk (h:Heap) (H:Hp):List Addr:=(List.range h.objs.size).filter fun a=>(H a).isSome
def hidT (h:Heap) (H:Hp):Heap:=PySem.W.hideAll h (trk h H)
theorem hidT_size (h:Heap) (H:Hp):(hidT h H).objs.size=h.objs.size:=PySem.W.hideAll_size _ _
theorem hidT_get {h:Heap} {H:Hp} {b:Addr} {o:Obj} (e:h.get? b=some o) (n:H b=none):(hidT h H).get? b=some o:=
 PySem.W.hideAll_get _ e fun hm=>by
  have q:(H b).isSome=true:=(List.mem_filter.mp hm).2
  rw [n] at q;simp at q
theorem of_hidT {h:Heap} {H:Hp} {b:Addr} {o:Obj} (e:(hidT h H).get? b=some o):h.get? b=some o/\H b=none:=by
 have e':h.get? b=some o:=PySem.W.of_hideAll (trk h H) e
 refine ⟨e',?_⟩
 cases q:H b with
 | none=>rfl
 | some x=>
  have hm:b ∈ trk h H:=List.mem_filter.mpr ⟨List.mem_range.mpr (Heap.lt_size e'),by simp [q]⟩
  have z:(hidT h H).get? b=none:=PySem.W.hideAll_none (trk h H) hm
  rw [z] at e;cases e
end L2
namespace L2
open PySem PySem.Spec PyProof.Rows
structure Mod (K:PySem.W.Frag) (mg:Str->Option Value) (base:Heap):Prop where
 kin:K.In base
 glob:base.Ns mainGlobals mg
 blt:∃ mb,base.Ns builtinsNs mb/\∀ x:Str,x ≠ "__name__"->mb x=bootBuiltins x
 nolimit:base.NoLimit
structure Cx where
 prog:Program
 w:World
 K:PySem.W.Frag
 mg:Str->Option Value
 base:Heap
 A:Around
 N:List Str
 s₀:Shared
 H₀:Hp
 env:Env
 outer:List Env
 stack:List Env
 ex:List Addr
 fn:Str->Bool
 calm:Bool
 pn:List (Addr × Obj)
 xe:Value->Shared->Prop
def frs (l:List Env):List Addr:=l.filterMap (·.frame)
abbrev Cx.fs (X:Cx):List Addr:=frs X.outer
def Vis (sc:Scope) (x:Str):Prop:=sc.names.lookup x=some .local\/sc.names.lookup x=some .cell\/sc.names.lookup x=some .free
def Loc (sc:Scope) (x:Str):Prop:=sc.names.lookup x=some .local\/sc.names.lookup x=some .cell
def Look (env:Env) (h:Heap) (m:Str->Option Value) (x:Str) (u:Value):Prop:=
 (env.kindOf x=some .local/\m x=some u)\/((env.kindOf x=some .cell\/env.kindOf x=some .free)/\∃ c,env.cells.lookup x=some c/\h.IsCell c (some u))
structure Cx.Ok (X:Cx):Prop where
 mod:Mod X.K X.mg X.base
 kind:X.env.scope.kind=.function
 glob:X.env.globals=mainGlobals
 blt:X.env.builtins=builtinsNs
 above:X.s₀.heap.objs.size<=X.env.locals
 inj:∀ x y c,X.env.cells.lookup x=some c->X.env.cells.lookup y=some c->x=y
 has:∀ x,(X.env.kindOf x=some .cell\/X.env.kindOf x=some .free)->∃ c,X.env.cells.lookup x=some c
 cab:∀ x c,X.fn x=true->X.env.cells.lookup x=some c->X.s₀.heap.objs.size<=c
 hd:X.calm=true->X.A.handled=none
 frames:X.A.frames=some X.stack
 stk:X.stack=X.outer\/(X.stack=X.env :: X.outer/\X.env.frame=some X.env.locals)
 exf:∀ b ∈ X.ex,b ≠ X.env.locals/\∀ x c,X.env.cells.lookup x=some c->c ≠ b
 bs:∀ b o,X.base.get? b=some o->X.s₀.heap.get? b=some o/\X.H₀ b=none
 bsz:X.base.objs.size<=X.s₀.heap.objs.size
 noex:∀ b o,X.base.get? b=some o->b ∉ X.ex
 exfs:∀ b ∈ X.ex,b ∉ X.fs
 funs:X.s₀.heap.FunFrames X.base X.outer
 frf:∀ b ∈ X.fs,X.H₀ b=none
structure Inv (X:Cx) (pins:List (Addr × Obj)) (σ:List (Option V)) (H:Hp) (s:Shared):Prop where
 ok:X.Ok
 os:s.os=X.s₀.os
 bare:AllBare s.gens
 base:Un X.fs X.ex X.H₀ H X.s₀.heap s.heap
 loc:∃ m,s.heap.Ns X.env.locals m/\∀ (i:Nat) (x:Str) (v:V),X.N[i]?=some x->σ[i]?=some (some v)->Vis X.env.scope x->∃ u,RelV v u/\Look X.env s.heap m x u
 cell:∀ x c,X.env.cells.lookup x=some c->∃ v,s.heap.IsCell c v
 free:H X.env.locals=none
 freeC:∀ x c,X.env.cells.lookup x=some c->H c=none
 pin:∀ p ∈ X.pn++pins,s.heap.get? p.1=some p.2/\H p.1=none/\p.1 ≠ X.env.locals/\p.1 ∉ X.fs/\∀ v,p.2.data ≠ .cell v
 hok:HOk X.prog X.w H s.heap
 len:σ.length=X.N.length
section
variable {X:Cx} {pins:List (Addr × Obj)} {σ:List (Option V)} {H H':Hp} {s:Shared} {h':Heap}
theorem Cx.Ok.nofr (ok:X.Ok) {b:Addr} {o:Obj} (e:X.base.get? b=some o):b ∉ X.fs:=fun hb=>by
 have:=(ok.funs.mem hb).1
 rw [e] at this;cases this
theorem Inv.bs (I:Inv X pins σ H s):∀ b o,X.base.get? b=some o->s.heap.get? b=some o/\H b=none:=fun b o e=>
 ⟨I.base.keep b o (I.ok.bs b o e).1 (I.ok.bs b o e).2 (I.ok.nofr e) (I.ok.noex b o e),I.base.free b o (I.ok.bs b o e).1 (I.ok.bs b o e).2 (I.ok.noex b o e)⟩
theorem Inv.bk (I:Inv X pins σ H s):∀ b o,X.base.get? b=some o->s.heap.get? b=some o:=fun b o e=>(I.bs b o e).1
theorem Inv.mod (I:Inv X pins σ H s):Mod X.K X.mg X.base:=I.ok.mod
theorem Inv.kIn (I:Inv X pins σ H s):X.K.In s.heap:=I.ok.mod.kin.keeps I.bk
theorem Inv.lt (I:Inv X pins σ H s):X.env.locals < s.heap.objs.size:=let ⟨_,hn,_⟩:=I.loc;hn.lt
theorem Inv.sz (I:Inv X pins σ H s):X.s₀.heap.objs.size<=s.heap.objs.size:=Nat.le_trans I.ok.above (Nat.le_of_lt I.lt)
theorem Inv.nofs (I:Inv X pins σ H s) {a:Addr} (h:s.heap.objs.size<=a):a ∉ X.fs:=fun hb=>by
 obtain ⟨_,o,ho,_⟩:=I.ok.funs.mem hb
 exact absurd (Nat.lt_of_lt_of_le (Heap.lt_size ho) (Nat.le_trans I.sz h)) (Nat.lt_irrefl _)
theorem Inv.cne (I:Inv X pins σ H s):∀ x c,X.env.cells.lookup x=some c->c ≠ X.env.locals:=fun x c e z=>by
 obtain ⟨v,o,ho,hd⟩:=I.cell x c e
 obtain ⟨m,⟨o',es,ep,ho',hd',_⟩,_⟩:=I.loc
 rw [z,ho'] at ho;cases ho;rw [hd'] at hd;cases hd
theorem Inv.funs (I:Inv X pins σ H s):s.heap.FunFrames X.base X.outer:=by
 have all:∀ (l:List Env),(∀ b ∈ frs l,b ∈ X.fs)->X.s₀.heap.FunFrames X.base l->s.heap.FunFrames X.base l:=by
  intro l
  induction l with
  | nil=>intro _ _;trivial
  | cons env r ih=>
   intro hs hl
   obtain ⟨hk,⟨L,o,hf,hn,ho,hd⟩,hr⟩:=hl
   have hL:L ∈ X.fs:=hs L (by unfold frs;rw [List.filterMap_cons,hf];exact List.mem_cons_self)
   obtain ⟨sl,e⟩:=I.base.slot L o ho (I.ok.frf L hL) hL fun z=>I.ok.exfs L z hL
   exact ⟨hk,⟨L,_,hf,hn,e,hd⟩,ih (fun b hb=>hs b (by unfold frs;rw [List.filterMap_cons,hf];exact List.mem_cons_of_mem _ hb)) hr⟩
 exact all X.outer (fun _ hb=>hb) I.ok.funs
theorem Inv.stack (I:Inv X pins σ H s):s.heap.FunFrames X.base X.stack:=by
 rcases I.ok.stk with e | ⟨e,hf⟩
 ·rw [e];exact I.funs
 ·rw [e]
  obtain ⟨m,hn,_⟩:=I.loc
  refine .cons (by rw [I.ok.kind];decide) hf hn ?_ I.funs
  exact Heap.get?_none_of_le (Nat.le_trans I.ok.bsz I.ok.above)
theorem Inv.stkSub (I:Inv X pins σ H s):∀ b ∈ frs X.stack,b ∈ X.env.locals :: X.fs:=fun b hb=>by
 rcases I.ok.stk with e | ⟨e,hf⟩
 ·rw [e] at hb;exact List.mem_cons_of_mem _ hb
 ·rw [e] at hb
  unfold frs at hb
  rw [List.filterMap_cons,hf] at hb
  exact hb
theorem Inv.stkFree (I:Inv X pins σ H s):∀ b ∈ frs X.stack,H b=none:=fun b hb=>by
 rcases List.mem_cons.mp (I.stkSub b hb) with e | hb
 ·rw [e];exact I.free
 ·obtain ⟨_,o,ho,_⟩:=I.ok.funs.mem hb
  exact I.base.free b o ho (I.ok.frf b hb) fun z=>I.ok.exfs b z hb
theorem Inv.step {g':Array GenState} {t':Nat} {d':Drawn} {ch:List Addr} (I:Inv X pins σ H s)
  (hch:∀ b ∈ ch,(b ∈ X.ex\/X.s₀.heap.objs.size<=b)/\b ≠ X.env.locals/\(∀ x c,X.env.cells.lookup x=some c->c ≠ b)/\∀ p ∈ X.pn++pins,p.1 ≠ b)
  (keep:∀ b o,b ≠ X.env.locals->b ∉ X.fs->b ∉ ch->s.heap.get? b=some o->H b=none->h'.get? b=some o)
  (slot:∀ b o,b ≠ X.env.locals->b ∈ X.fs->b ∉ ch->s.heap.get? b=some o->H b=none->∃ sl,h'.get? b=some { o with slots:=sl }) (free:∀ b o,b ∉ ch->s.heap.get? b=some o->H b=none->H' b=none)
  (there:∀ b o,b ∉ ch->s.heap.get? b=some o->∃ o',h'.get? b=some o')
  (tups:∀ b xs,H b=some (.tup xs)->H' b=some (.tup xs)) (frzs:∀ b o u,H b=some (.frz o u)->H' b=some (.frz o u)) (tbls:∀ b ps,H b=some (.tbl ps)->∃ more,H' b=some (.tbl (ps++more)))
  (ns:∀ m,s.heap.Ns X.env.locals m->h'.Ns X.env.locals m) (hok:HOk X.prog X.w H' h') (hg:AllBare g') :
  Inv X pins σ H' { s with heap:=h',gens:=g',drawn:=d',toks:=t' }:=by
 have neL:∀ b o,X.s₀.heap.get? b=some o->b ≠ X.env.locals:=fun b o e=>Nat.ne_of_lt (Nat.lt_of_lt_of_le (Heap.lt_size e) I.ok.above)
 have neC:∀ b o,X.s₀.heap.get? b=some o->b ∉ X.ex->b ∉ ch:=fun b o e hx hb=>by
  rcases (hch b hb).1 with z | z
  ·exact hx z
  ·exact absurd (Nat.lt_of_lt_of_le (Heap.lt_size e) z) (Nat.lt_irrefl _)
 have cellK:∀ x c,X.env.cells.lookup x=some c->∀ v,s.heap.IsCell c v->h'.IsCell c v:=fun x c e v ⟨o,ho,hd⟩=>by
  have nch:c ∉ ch:=fun z=>(hch c z).2.2.1 x c e rfl
  by_cases hc:c ∈ X.fs
  ·obtain ⟨sl,q⟩:=slot c o (I.cne x c e) hc nch ho (I.freeC x c e)
   exact ⟨_,q,hd⟩
  ·exact ⟨o,keep c o (I.cne x c e) hc nch ho (I.freeC x c e),hd⟩
 refine ⟨I.ok,I.os,hg,⟨fun b o e n hb hx=>?_,fun b o e n hb hx=>?_,fun b o e n hx=>?_,fun b o e hx=>?_,fun b xs e=>tups b xs (I.base.tups b xs e),fun b o xs e=>frzs b o xs (I.base.frzs b o xs e),fun b ps e=>?_⟩,?_,fun x c e=>?_,?_,fun x c e=>?_,fun p hp=>?_,hok,I.len⟩
 ·exact keep b o (neL b o e) hb (neC b o e hx) (I.base.keep b o e n hb hx) (I.base.free b o e n hx)
 ·obtain ⟨sl,e1⟩:=I.base.slot b o e n hb hx
  obtain ⟨sl',e2⟩:=slot b _ (neL b o e) hb (neC b o e hx) e1 (I.base.free b o e n hx)
  exact ⟨sl',e2⟩
 ·obtain ⟨o',e1⟩:=I.base.there b o e hx
  exact free b o' (neC b o e hx) e1 (I.base.free b o e n hx)
 ·obtain ⟨o',e1⟩:=I.base.there b o e hx
  exact there b o' (neC b o e hx) e1
 ·obtain ⟨m1,e1⟩:=I.base.tbls b ps e
  obtain ⟨m2,e2⟩:=tbls b _ e1
  exact ⟨m1++m2,by rw [e2,Array.append_assoc]⟩
 ·obtain ⟨m,hn,hl⟩:=I.loc
  refine ⟨m,ns m hn,fun i x v e1 e2 e3=>?_⟩
  obtain ⟨u,r,l⟩:=hl i x v e1 e2 e3
  refine ⟨u,r,?_⟩
  rcases l with l | ⟨k,c,e,z⟩
  ·exact .inl l
  ·exact .inr ⟨k,c,e,cellK x c e _ z⟩
 ·obtain ⟨v,z⟩:=I.cell x c e
  exact ⟨v,cellK x c e v z⟩
 ·obtain ⟨m,⟨o,_,_,ho,_⟩,_⟩:=I.loc
  exact free _ o (fun z=>(hch _ z).2.1 rfl) ho I.free
 ·obtain ⟨v,o,ho,hd⟩:=I.cell x c e
  exact free c o (fun z=>(hch c z).2.2.1 x c e rfl) ho (I.freeC x c e)
 ·obtain ⟨e,n,ne,nf,d⟩:=I.pin p hp
  have nch:p.1 ∉ ch:=fun z=>(hch p.1 z).2.2.2 p hp rfl
  exact ⟨keep p.1 p.2 ne nf nch e n,free p.1 p.2 nch e n,ne,nf,d⟩
theorem Inv.un {t':Nat} (I:Inv X pins σ H s) (u:Un X.fs [] H H' s.heap h') (hok:HOk X.prog X.w H' h'):Inv X pins σ H' { s with heap:=h',toks:=t' }:=by
 obtain ⟨m,⟨o,es,ep,ho,r⟩,_⟩:=id I.loc
 obtain ⟨sl,hL⟩:=u.any ho I.free (by simp)
 exact I.step (g':=s.gens) (d':=s.drawn) (ch:=[]) (fun _ z=>nomatch z) (fun b o _ hb _ e n=>u.keep b o e n hb (by simp)) (fun b o _ hb _ e n=>u.slot b o e n hb (by simp)) (fun b o _ e n=>u.free b o e n (by simp)) (fun b o _ e=>u.there b o e (by simp)) u.tups u.frzs u.tbls (fun m' hm=>by
  obtain ⟨o',es',ep',ho',r'⟩:=hm
  rw [ho] at ho';cases ho'
  exact ⟨_,es',ep',hL,r'⟩) hok I.bare
theorem Inv.call {g':Array GenState} {t':Nat} {d':Drawn} {ch:List Addr} (I:Inv X pins σ H s) (u:Un (frs X.stack) ch H H' s.heap h') (hok:HOk X.prog X.w H' h') (hg:AllBare g')
  (hch:∀ b ∈ ch,(b ∈ X.ex\/X.s₀.heap.objs.size<=b)/\b ≠ X.env.locals/\(∀ x c,X.env.cells.lookup x=some c->c ≠ b)/\∀ p ∈ X.pn++pins,p.1 ≠ b) :
  Inv X pins σ H' { s with heap:=h',gens:=g',drawn:=d',toks:=t' }:=by
 obtain ⟨m,⟨o,es,ep,ho,r⟩,_⟩:=id I.loc
 obtain ⟨sl,hL⟩:=u.any ho I.free fun z=>(hch _ z).2.1 rfl
 exact I.step (ch:=ch) hch (fun b o hL hb hc e n=>u.keep b o e n (fun z=>(List.mem_cons.mp (I.stkSub b z)).elim hL hb) hc) (fun b o _ _ hc e n=>u.any e n hc) (fun b o hc e n=>u.free b o e n hc) (fun b o hc e=>u.there b o e hc) u.tups u.frzs u.tbls (fun m' hm=>by
  obtain ⟨o',es',ep',ho',r'⟩:=hm
  rw [ho] at ho';cases ho'
  exact ⟨_,es',ep',hL,r'⟩) hok hg
theorem Inv.turned {t':Nat} {it:Addr} (I:Inv X pins σ H s) (k:∀ b o,b ≠ it->s.heap.get? b=some o->h'.get? b=some o) (hn:H it=none) (hL:it ≠ X.env.locals)
  (h1:it ∈ X.ex\/X.s₀.heap.objs.size<=it) (h2:∀ x c,X.env.cells.lookup x=some c->c ≠ it) (h3:∀ p ∈ X.pn++pins,p.1 ≠ it):Inv X pins σ H { s with heap:=h',toks:=t' }:=by
 have nit:∀ b u,H b=some u->b ≠ it:=fun b u e z=>by rw [z,hn] at e;cases e
 refine I.step (g':=s.gens) (d':=s.drawn) (ch:=[it]) (fun b hb=>?_) (fun b o _ _ hc e _=>k b o (fun z=>hc (by simp [z])) e) (fun b o _ _ hc e _=>⟨o.slots,k b o (fun z=>hc (by simp [z])) e⟩) (fun _ _ _ _ n=>n)
  (fun b o hc e=>⟨o,k b o (fun z=>hc (by simp [z])) e⟩) (fun _ _ e=>e) (fun _ _ _ e=>e) (fun b ps e=>⟨#[],by rw [e];simp⟩) (fun m hm=>?_) (fun b u e=>?_) I.bare
 ·have e:b=it:=by simpa using hb
  subst e
  exact ⟨h1,hL,h2,h3⟩
 ·obtain ⟨o,es,ep,ho,r⟩:=hm
  exact ⟨o,es,ep,k _ o (Ne.symm hL) ho,r⟩
 ·refine (I.hok b u e).stay (fun c v hc q=>k c v ?_ q) (fun _ q=>q) fun _ _ q=>q
  rcases hc with z | z
  ·rw [z];exact nit b u e
  ·exact nit c _ z
theorem Inv.tok (I:Inv X pins σ H s) (t:Nat):Inv X pins σ H { s with toks:=t }:=I.un (h':=s.heap) (t':=t) Un.refl I.hok
theorem Inv.kept {t':Nat} (I:Inv X pins σ H s) (k:∀ b u,s.heap.get? b=some u->h'.get? b=some u):Inv X pins σ H { s with heap:=h',toks:=t' }:=I.un (Un.kept k) (I.hok.kept k)
theorem Inv.laid {a:Addr} {o:HO} {t':Nat} (I:Inv X pins σ H s) (k:∀ b u,s.heap.get? b=some u->h'.get? b=some u) (hp:s.heap.objs.size<=a) (new:ObjOk X.prog X.w (upd H a o) h' a o) :
  Inv X pins σ (upd H a o) { s with heap:=h',toks:=t' }:=I.un (Un.laid k hp (I.hok.fresh hp)) (I.hok.laid k hp new)
theorem Inv.write {x e:Addr} {o:HO} {t':Nat} (I:Inv X pins σ H s) (mu:Mut (H x)) (he:e=x\/H e=some (.own x)) (k:∀ b u,b ≠ e->s.heap.get? b=some u->h'.get? b=some u) (heo:∃ u,h'.get? e=some u)
  (new:ObjOk X.prog X.w (upd H x o) h' x o):Inv X pins σ (upd H x o) { s with heap:=h',toks:=t' }:=I.un (Un.write mu he k heo) (I.hok.write mu he k heo new)
theorem Inv.pins_of {pins':List (Addr × Obj)} (I:Inv X pins σ H s) (h:∀ p ∈ pins',s.heap.get? p.1=some p.2/\H p.1=none/\p.1 ≠ X.env.locals/\p.1 ∉ X.fs/\∀ v,p.2.data ≠ .cell v):Inv X pins' σ H s:=
 ⟨I.ok,I.os,I.bare,I.base,I.loc,I.cell,I.free,I.freeC,fun p hp=>(List.mem_append.mp hp).elim (fun z=>I.pin p (List.mem_append_left _ z)) (h p),I.hok,I.len⟩
theorem nodup_ix {N:List Str} (hN:N.Nodup) {i j:Nat} {x:Str} (a:N[i]?=some x) (b:N[j]?=some x):i=j:=by
 obtain ⟨h1,e1⟩:=List.getElem?_eq_some_iff.mp a
 obtain ⟨h2,e2⟩:=List.getElem?_eq_some_iff.mp b
 exact (List.getElem_inj hN).mp (e1.trans e2.symm)
theorem store_ok2 {M:Model} {A:Around} {E:Value->Shared->Prop} {i:Nat} {x:Str} {v:V} {u:Value} {Q:Unit->Shared->Prop} (I:Inv X pins σ H s) (hN:X.N.Nodup) (hi:X.N[i]?=some x) (hx:Loc X.env.scope x) (r:RelV v u)
  (h:∀ s',Inv X pins (σ.set i (some v)) H s'->(∃ a,Heap.SameBut a s.heap s'.heap/\(a=X.env.locals\/X.env.cells.lookup x=some a))->Q () s') (hf:X.fn x=true\/X.env.scope.names.lookup x=some .local:=by first | exact .inl rfl | exact .inr rfl | assumption):wpAny M A (storeName X.env x u) Q E s:=by
 obtain ⟨m,hn,hl⟩:=id I.loc
 have hcls:(X.env.scope.kind == .class || (X.env.scope.kind == .module && X.env.locals != X.env.globals))=false:=by rw [I.ok.kind];rfl
 have hiσ:i < σ.length:=by rw [I.len];exact (List.getElem?_eq_some_iff.mp hi).1
 have cne:=I.cne
 have tracked:∀ {a:Addr} {h':Heap},(∃ o,s.heap.get? a=some o/\H a=none)->Heap.SameBut a s.heap h'->HOk X.prog X.w H h':=fun {a h'} ha hs b ob e=>by
  obtain ⟨_,_,hfree⟩:=ha
  refine (I.hok b ob e).stay (fun c w' hc q=>(hs.2 c ?_).trans q) (fun _ q=>q) fun _ _ q=>q
  rintro rfl
  rcases hc with rfl | hc
  ·rw [hfree] at e;cases e
  ·rw [hfree] at hc;cases hc
 rcases hx with hk | hk
 ·refine wpAny_storeName_local hk hn (fun h' hn' hs=>?_) hcls
  obtain ⟨oL,_,_,hoL,_⟩:=id hn
  refine h _ ⟨I.ok,I.os,I.bare,⟨fun b o e n hb hx=>?_,fun b o e n hb hx=>?_,I.base.free,fun b o e hx=>?_,I.base.tups,I.base.frzs,I.base.tbls⟩,⟨_,hn',fun j y v' e1 e2 e3=>?_⟩,fun y c e=>?_,I.free,I.freeC,fun p hp=>?_,tracked ⟨oL,hoL,I.free⟩ hs,by simpa using I.len⟩ ⟨_,hs,.inl rfl⟩
  ·exact (hs.2 b (Nat.ne_of_lt (Nat.lt_of_lt_of_le (Heap.lt_size e) I.ok.above))).trans (I.base.keep b o e n hb hx)
  ·obtain ⟨sl,e1⟩:=I.base.slot b o e n hb hx
   exact ⟨sl,(hs.2 b (Nat.ne_of_lt (Nat.lt_of_lt_of_le (Heap.lt_size e) I.ok.above))).trans e1⟩
  ·obtain ⟨o',e1⟩:=I.base.there b o e hx
   exact ⟨o',(hs.2 b (Nat.ne_of_lt (Nat.lt_of_lt_of_le (Heap.lt_size e) I.ok.above))).trans e1⟩
  ·by_cases hj:j=i
   ·subst hj
    rw [hi] at e1;cases e1
    rw [List.getElem?_set_self hiσ] at e2
    cases e2
    exact ⟨u,r,.inl ⟨hk,by simp⟩⟩
   ·rw [List.getElem?_set_ne (Ne.symm hj)] at e2
    obtain ⟨u',r',q⟩:=hl j y v' e1 e2 e3
    refine ⟨u',r',?_⟩
    rcases q with ⟨k,e⟩ | ⟨k,c,e,z⟩
    ·refine .inl ⟨k,?_⟩
     have:y ≠ x:=fun e=>hj (nodup_ix hN e1 (e ▸ hi))
     simp [this,e]
    ·exact .inr ⟨k,c,e,z.sameBut hs (cne y c e)⟩
  ·obtain ⟨w',z⟩:=I.cell y c e
   exact ⟨w',z.sameBut hs (cne y c e)⟩
  ·obtain ⟨e,n,ne,nf,d⟩:=I.pin p hp
   exact ⟨(hs.2 p.1 ne).trans e,n,ne,nf,d⟩
 ·have hfn:X.fn x=true:=by
   rcases hf with z | z
   ·exact z
   ·rw [z] at hk;cases hk
  obtain ⟨c,hc⟩:=I.ok.has x (.inl hk)
  obtain ⟨w',z⟩:=I.cell x c hc
  refine wpAny_storeName_cell I.ok.kind hk hc z (fun h' hc' hs=>?_)
  obtain ⟨oc,hoc,hocd⟩:=id z
  refine h { s with heap:=h' } ⟨I.ok,I.os,I.bare,⟨fun b o e n hb hx=>?_,fun b o e n hb hx=>?_,I.base.free,fun b o e hx=>?_,I.base.tups,I.base.frzs,I.base.tbls⟩,⟨m,hn.sameBut hs (Ne.symm (cne x c hc)),fun j y v' e1 e2 e3=>?_⟩,fun y c' e=>?_,I.free,I.freeC,fun p hp=>?_,tracked ⟨oc,hoc,I.freeC x c hc⟩ hs,by simpa using I.len⟩ ⟨c,hs,.inr hc⟩
  ·exact (hs.2 b (Nat.ne_of_lt (Nat.lt_of_lt_of_le (Heap.lt_size e) (I.ok.cab x c hfn hc)))).trans (I.base.keep b o e n hb hx)
  ·obtain ⟨sl,e1⟩:=I.base.slot b o e n hb hx
   exact ⟨sl,(hs.2 b (Nat.ne_of_lt (Nat.lt_of_lt_of_le (Heap.lt_size e) (I.ok.cab x c hfn hc)))).trans e1⟩
  ·obtain ⟨o',e1⟩:=I.base.there b o e hx
   exact ⟨o',(hs.2 b (Nat.ne_of_lt (Nat.lt_of_lt_of_le (Heap.lt_size e) (I.ok.cab x c hfn hc)))).trans e1⟩
  ·by_cases hj:j=i
   ·subst hj
    rw [hi] at e1;cases e1
    rw [List.getElem?_set_self hiσ] at e2
    cases e2
    exact ⟨u,r,.inr ⟨.inl hk,c,hc,hc'⟩⟩
   ·rw [List.getElem?_set_ne (Ne.symm hj)] at e2
    obtain ⟨u',r',q⟩:=hl j y v' e1 e2 e3
    refine ⟨u',r',?_⟩
    rcases q with q | ⟨k,c',e,z'⟩
    ·exact .inl q
    ·refine .inr ⟨k,c',e,z'.sameBut hs ?_⟩
     rintro rfl
     exact hj (nodup_ix hN e1 (I.ok.inj _ _ _ e hc ▸ hi))
  ·by_cases hcc:c'=c
   ·subst hcc;exact ⟨_,hc'⟩
   ·obtain ⟨w2,z2⟩:=I.cell y c' e
    exact ⟨w2,z2.sameBut hs hcc⟩
  ·obtain ⟨e,n,ne,nf,d⟩:=I.pin p hp
   refine ⟨(hs.2 p.1 ?_).trans e,n,ne,nf,d⟩
   intro q
   rw [q,hoc] at e
   have q':oc=p.2:=Option.some.inj e
   exact d w' (by rw [<-q'];exact hocd)
theorem store_ok {M:Model} {A:Around} {E:Value->Shared->Prop} {i:Nat} {x:Str} {v:V} {u:Value} {Q:Unit->Shared->Prop} (I:Inv X pins σ H s) (hN:X.N.Nodup) (hi:X.N[i]?=some x) (hx:Loc X.env.scope x) (r:RelV v u)
  (h:∀ s',Inv X pins (σ.set i (some v)) H s'->Q () s') (hf:X.fn x=true\/X.env.scope.names.lookup x=some .local:=by first | exact .inl rfl | exact .inr rfl | assumption):wpAny M A (storeName X.env x u) Q E s:=
 store_ok2 I hN hi hx r (fun s' I' _=>h s' I') hf
theorem Inv.call' {s':Shared} {ch:List Addr} (I:Inv X pins σ H s) (ho:s'.os=s.os) (u:Un (frs X.stack) ch H H' s.heap s'.heap) (hok:HOk X.prog X.w H' s'.heap) (hg:AllBare s'.gens)
  (hch:∀ b ∈ ch,(b ∈ X.ex\/X.s₀.heap.objs.size<=b)/\b ≠ X.env.locals/\(∀ x c,X.env.cells.lookup x=some c->c ≠ b)/\∀ p ∈ X.pn++pins,p.1 ≠ b):Inv X pins σ H' s':=by
 obtain ⟨h',g',d',t',o'⟩:=s'
 have e:o'=s.os:=ho
 subst e
 exact I.call (g':=g') (t':=t') (d':=d') u hok hg hch
end
abbrev XK:=Value->Option Addr->Hp->Prop
abbrev St:=List (Option V)
abbrev VK:=V->Hp->Prop
abbrev TE:=St->Hp->VK->Prop
abbrev TT:=St->Hp->(Bool->Hp->Prop)->Prop
abbrev TA:=St->Hp->(List V->Hp->Prop)->Prop
structure Ends where
 nx:St->Hp->Prop
 rt:VK
 bk:St->Hp->Prop:=fun _ _=>False
 ct:St->Hp->Prop:=fun _ _=>False
abbrev TS:=Ends->St->Hp->Prop
def EP (X:Cx) (pins:List (Addr × Obj)) (σ:St) (Q:VK) (u:Value) (s':Shared):Prop:=∃ v H',Inv X pins σ H' s'/\RelV v u/\Q v H'
def TP (X:Cx) (pins:List (Addr × Obj)) (σ:St) (Q:Bool->Hp->Prop) (b:Bool) (s':Shared):Prop:=∃ H',Inv X pins σ H' s'/\Q b H'
def AP (X:Cx) (pins:List (Addr × Obj)) (σ:St) (Q:List V->Hp->Prop) (us:List Value) (s':Shared):Prop:=∃ vs H',Inv X pins σ H' s'/\Vals vs us/\Q vs H'
def SP (X:Cx) (pins:List (Addr × Obj)) (D:Ends) (f:Flow) (s':Shared):Prop:=
 match f with
 | .next=>∃ σ' H',Inv X pins σ' H' s'/\D.nx σ' H'
 | .brk=>∃ σ' H',Inv X pins σ' H' s'/\D.bk σ' H'
 | .cont=>∃ σ' H',Inv X pins σ' H' s'/\D.ct σ' H'
 | .ret u=>∃ v σ' H',Inv X pins σ' H' s'/\RelV v u/\D.rt v H'
def PE (X:Cx) (e:Expr) (t:TE):Prop:=
 ∀ (pins:List (Addr × Obj)) (s:Shared) (σ:St) (H:Hp) (Q:VK),Inv X pins σ H s->t σ H Q->wpAny (model X.prog X.w) X.A (eval e X.env) (EP X pins σ Q) X.xe s
def PT (X:Cx) (e:Expr) (t:TT):Prop:=
 ∀ (pins:List (Addr × Obj)) (s:Shared) (σ:St) (H:Hp) (Q:Bool->Hp->Prop),Inv X pins σ H s->t σ H Q->wpAny (model X.prog X.w) X.A (isTrue e X.env (eval e X.env)) (TP X pins σ Q) X.xe s
def PW (X:Cx) (e:Expr) (t:TT):Prop:=
 ∀ (whole:Sem Value) (pins:List (Addr × Obj)) (s:Shared) (σ:St) (H:Hp) (Q:Bool->Hp->Prop),Inv X pins σ H s->t σ H Q->wpAny (model X.prog X.w) X.A (isTrue e X.env whole) (TP X pins σ Q) X.xe s
theorem PW.pt {X:Cx} {e:Expr} {t:TT} (h:PW X e t):PT X e t:=h _
def PA (X:Cx) (es:List Expr) (t:TA):Prop:=
 ∀ (pos:Pos) (pins:List (Addr × Obj)) (s:Shared) (σ:St) (H:Hp) (Q:List V->Hp->Prop),Inv X pins σ H s->t σ H Q->wpAny (model X.prog X.w) X.A (spliced (backTo pos (starEach es X.env))) (AP X pins σ Q) X.xe s
def PS (X:Cx) (st:Stmt) (t:TS):Prop:=
 ∀ (pins:List (Addr × Obj)) (s:Shared) (σ:St) (H:Hp) (D:Ends),Inv X pins σ H s->t D σ H->wpAny (model X.prog X.w) X.A (exec st X.env) (SP X pins D) X.xe s
def PSs (X:Cx) (st:List Stmt) (t:TS):Prop:=
 ∀ (pins:List (Addr × Obj)) (s:Shared) (σ:St) (H:Hp) (D:Ends),Inv X pins σ H s->t D σ H->wpAny (model X.prog X.w) X.A (execs st X.env) (SP X pins D) X.xe s
theorem thn {α:Type} {t:Sem α} {Q Q':α->Shared->Prop} {M:Model} {A:Around} {E:Value->Shared->Prop} {s:Shared} (h:wpAny M A t Q E s) (hQ:∀ a s,Q a s->Q' a s):wpAny M A t Q' E s:=wpAny_mono h hQ fun _ _ x=>x
end L2
namespace L2
open PySem PySem.Spec PyProof.Rows
section
variable {X:Cx}
def tVar (i:Nat):TE:=fun σ H Q=>∃ v,σ[i]?=some (some v)/\Q v H
def tC (v:V):TE:=fun _ H Q=>Q v H
theorem pe_var {i:Nat} {x:Str} {pos:Pos} (hN:X.N[i]?=some x) (hv:Vis X.env.scope x) (hd:(x == ("__debug__" : Str))=false:=by decide) (hcd:(x == ("__classdict__" : Str))=false:=by decide):PE X (.Name x pos) (tVar i):=by
 intro pins s σ H Q I h
 obtain ⟨v,e,h⟩:=h
 obtain ⟨m,hn,hl⟩:=I.loc
 obtain ⟨u,r,l⟩:=hl i x v hN e hv
 have fin:EP X pins σ Q u s:=⟨v,H,I,r,h⟩
 rcases l with ⟨hk,hm⟩ | ⟨hk,c,hc,hcell⟩
 ·exact wpAny_Name (wpAny_loadName_local I.ok.kind hk hn hm fin) hd
 ·rcases hk with hk | hk
  ·exact wpAny_Name (wpAny_loadName_cell I.ok.kind hk hc hcell fin) hd
  ·exact wpAny_Name (wpAny_loadName_free I.ok.kind hk hc hcell fin hcd) hd
theorem pe_int {i j pos}:PE X (.Constant (.int i) j pos) (tC (.int i)):=fun _ _ _ H _ I h=>wpAny_Constant_int ⟨.int i,H,I.tok _,⟨_,rfl⟩,h⟩
theorem pe_bl {b j pos}:PE X (.Constant (.bool b) j pos) (tC (.bl b)):=fun _ _ _ H _ I h=>Constant_bool ⟨.bl b,H,I,rfl,h⟩
theorem pe_non {j pos}:PE X (.Constant .none j pos) (tC .non):=fun _ _ _ H _ I h=>Constant_none ⟨.non,H,I,rfl,h⟩
theorem pe_str {x j pos}:PE X (.Constant (.str x) j pos) (tC (.str x)):=fun _ _ _ H _ I h=>Calls.Constant_str ⟨.str x,H,I.tok _,⟨_,rfl⟩,h⟩
def Gl (X:Cx) (x:Str):Prop:=X.env.kindOf x=some .globalImplicit
theorem ld_glob {E:Value->Shared->Prop} {pins:List (Addr × Obj)} {s:Shared} {σ:St} {H:Hp} {x:Str} {u:Value} {pos:Pos} {Q:Value->Shared->Prop} (I:Inv X pins σ H s) (hg:Gl X x) (hm:X.mg x=some u) (h:Q u s)
  (hd:(x == ("__debug__" : Str))=false:=by decide):wpAny (model X.prog X.w) X.A (eval (.Name x pos) X.env) Q E s:=
 Calls.Name_function_global I.ok.kind hg (Calls.loadGlobal_global (by rw [I.ok.glob];exact I.mod.glob.keeps I.bk) hm h) hd
theorem ld_blt {E:Value->Shared->Prop} {pins:List (Addr × Obj)} {s:Shared} {σ:St} {H:Hp} {x:Str} {u:Value} {pos:Pos} {Q:Value->Shared->Prop} (I:Inv X pins σ H s) (hg:Gl X x) (hm:X.mg x=none) (hv:bootBuiltins x=some u) (h:Q u s)
  (hn:x ≠ "__name__" := by decide) (hd:(x == ("__debug__" : Str))=false:=by decide):wpAny (model X.prog X.w) X.A (eval (.Name x pos) X.env) Q E s:=by
 obtain ⟨mb,h1,h2⟩:=I.mod.blt
 exact Calls.Name_function_global I.ok.kind hg (Calls.loadGlobal_builtin (by rw [I.ok.glob];exact I.mod.glob.keeps I.bk) hm (by rw [I.ok.blt];exact h1.keeps I.bk) ((h2 x hn).trans hv) h) hd
theorem pe_glob {x:Str} {v:V} {u:Value} {pos:Pos} (hg:Gl X x) (hm:X.mg x=some u) (r:RelV v u) (hd:(x == ("__debug__" : Str))=false:=by decide):PE X (.Name x pos) (tC v):=
 fun _ _ _ H _ I h=>ld_glob I hg hm ⟨v,H,I,r,h⟩ hd
theorem pe_bltn {x:Str} {v:V} {u:Value} {pos:Pos} (hg:Gl X x) (hm:X.mg x=none) (hv:bootBuiltins x=some u) (r:RelV v u) (hn:x ≠ "__name__" := by decide) (hd:(x == ("__debug__" : Str))=false:=by decide):PE X (.Name x pos) (tC v):=
 fun _ _ _ H _ I h=>ld_blt I hg hm hv ⟨v,H,I,r,h⟩ hn hd
variable {a b:Expr} {ta tb:TE} {pos:Pos}
def tB (t:TE):TT:=fun σ H Q=>t σ H fun x H1=>∃ c,x=.bl c/\Q c H1
theorem pt_val {e:Expr} {t:TE} (h:PE X e t) (he:∀ whole,isTrue e X.env whole=(do let v <-whole;standAt e.pos;holding [v] (truthy v)):=by intro _;rfl):PT X e (tB t):=by
 intro pins s σ H Q I hw
 refine isTrue_plain (thn (h pins s σ H _ I hw) fun v s1 ⟨x,H1,I1,r1,q1⟩=>?_) (he _)
 obtain ⟨d,rfl,q⟩:=q1
 cases r1
 exact wpAny_truthy_bool ⟨H1,I1,q⟩
variable {tA tB':TT} {rest:List Expr}
def tAnd (t u:TT):TT:=fun σ H Q=>t σ H fun c H1=>if c=true then u σ H1 Q else Q false H1
def tOr (t u:TT):TT:=fun σ H Q=>t σ H fun c H1=>if c=true then Q true H1 else u σ H1 Q
def tNot (t:TT):TT:=fun σ H Q=>t σ H fun c H1=>Q (!c) H1
theorem pw_and1 (ha:PT X a tA):PW X (.BoolOp .And [a] pos) tA:=by
 intro wh pins s σ H Q I h
 refine isTrue_and (thn (ha pins s σ H Q I h) fun c s1 e=>?_)
 cases c with
 | true=>exact isTrue_and_nil e
 | false=>exact e
theorem pw_or1 (ha:PT X a tA):PW X (.BoolOp .Or [a] pos) tA:=by
 intro wh pins s σ H Q I h
 refine isTrue_or (thn (ha pins s σ H Q I h) fun c s1 e=>?_)
 cases c with
 | false=>exact isTrue_or_nil e
 | true=>exact e
theorem pw_and (ha:PT X a tA) (hb:PW X (.BoolOp .And (b :: rest) pos) tB'):PW X (.BoolOp .And (a :: b :: rest) pos) (tAnd tA tB'):=by
 intro wh pins s σ H Q I h
 refine isTrue_and (thn (ha pins s σ H _ I h) fun c s1 ⟨H1,I1,q1⟩=>?_)
 cases c with
 | true=>exact hb wh pins s1 σ H1 Q I1 q1
 | false=>exact ⟨H1,I1,q1⟩
theorem pw_or (ha:PT X a tA) (hb:PW X (.BoolOp .Or (b :: rest) pos) tB'):PW X (.BoolOp .Or (a :: b :: rest) pos) (tOr tA tB'):=by
 intro wh pins s σ H Q I h
 refine isTrue_or (thn (ha pins s σ H _ I h) fun c s1 ⟨H1,I1,q1⟩=>?_)
 cases c with
 | true=>exact ⟨H1,I1,q1⟩
 | false=>exact hb wh pins s1 σ H1 Q I1 q1
theorem pt_not (ha:PT X a tA):PT X (.UnaryOp .Not a pos) (tNot tA):=by
 intro pins s σ H Q I h
 exact isTrue_not (ha pins s σ H (fun c H1=>Q (!c) H1) I h)
def tAndV (ta tb:TE):TE:=fun σ H Q=>ta σ H fun x H1=>∃ c,x=.bl c/\if c=true then tb σ H1 Q else Q (.bl false) H1
def tOrV (ta tb:TE):TE:=fun σ H Q=>ta σ H fun x H1=>∃ c,x=.bl c/\if c=true then Q (.bl true) H1 else tb σ H1 Q
def tNotV (ta:TE):TE:=fun σ H Q=>ta σ H fun x H1=>∃ c,x=.bl c/\Q (.bl (!c)) H1
theorem pe_one {op} {t:TE} (h:PE X a t):PE X (.BoolOp op [a] pos) t:=fun pins s σ H Q I hw=>BoolOp_one (h pins s σ H Q I hw)
theorem pe_and (ha:PE X a ta) (hb:PE X (.BoolOp .And (b :: rest) pos) tb):PE X (.BoolOp .And (a :: b :: rest) pos) (tAndV ta tb):=by
 intro pins s σ H Q I h
 refine BoolOp_and (thn (ha pins s σ H _ I h) fun v s1 ⟨x,H1,I1,r1,q1⟩=>?_)
 obtain ⟨c,rfl,q1⟩:=q1
 cases r1
 refine wpAny_truthy_bool ?_
 cases c with
 | true=>exact hb pins s1 σ H1 Q I1 q1
 | false=>exact ⟨.bl false,H1,I1,rfl,q1⟩
theorem pe_or (ha:PE X a ta) (hb:PE X (.BoolOp .Or (b :: rest) pos) tb):PE X (.BoolOp .Or (a :: b :: rest) pos) (tOrV ta tb):=by
 intro pins s σ H Q I h
 refine BoolOp_or (thn (ha pins s σ H _ I h) fun v s1 ⟨x,H1,I1,r1,q1⟩=>?_)
 obtain ⟨c,rfl,q1⟩:=q1
 cases r1
 refine wpAny_truthy_bool ?_
 cases c with
 | false=>exact hb pins s1 σ H1 Q I1 q1
 | true=>exact ⟨.bl true,H1,I1,rfl,q1⟩
theorem pe_not (ha:PE X a ta):PE X (.UnaryOp .Not a pos) (tNotV ta):=by
 intro pins s σ H Q I h
 refine UnaryOp_ (thn (ha pins s σ H _ I h) fun v s1 ⟨x,H1,I1,r1,q1⟩=>?_)
 obtain ⟨c,rfl,q1⟩:=q1
 cases r1
 exact not_of (wpAny_truthy_bool ⟨.bl (!c),H1,I1,rfl,q1⟩)
def tIf (t:TT) (ta tb:TE):TE:=fun σ H Q=>t σ H fun c H1=>if c=true then ta σ H1 Q else tb σ H1 Q
theorem pe_ifExp {c:Expr} (hc:PT X c tA) (ha:PE X a ta) (hb:PE X b tb):PE X (.IfExp c a b pos) (tIf tA ta tb):=by
 intro pins s σ H Q I h
 refine wpAny_IfExp (thn (hc pins s σ H _ I h) fun d s1 ⟨H1,I1,q1⟩=>?_)
 cases d with
 | true=>exact ha pins s1 σ H1 Q I1 q1
 | false=>exact hb pins s1 σ H1 Q I1 q1
end
end L2
namespace L2
open PySem PySem.Spec PyProof.Rows
def SqL (K:PySem.W.Frag) (H:Hp) (a:Addr) (xs:List V):Prop:=
 Rd H a (.lst xs) ∨
  ∃ (o:Obj) (its:Array Value) (n:Nat),K.lookup a=some o/\o.cls=.type "list"/\o.dict=none/\o.data=.seq its n/\its.size<=sizeLine/\Vals xs its.toList
def SqT (K:PySem.W.Frag) (H:Hp) (a:Addr) (xs:List V):Prop:=
 Rd H a (.tup xs) ∨
  ∃ (o:Obj) (its:Array Value) (n:Nat),K.lookup a=some o/\o.cls=.type "tuple"/\o.data=.seq its n/\its.size<=sizeLine/\Vals xs its.toList
def absV:Value->Option V
 | .none=>some .non
 | .bool b=>some (.bl b)
 | .int i _=>some (.int i)
 | .str x _=>some (.str x)
 | .bytes b _=>some (.byt b)
 | .float b _=>some (.flt b)
 | .ref a=>some (.ref a)
 | .type n=>some (.ty n)
 | _=>none
theorem RelV.abs {x:V} {u:Value} (r:RelV x u):absV u=some x:=by
 cases x with
 | non=>cases r;rfl
 | bl _=>cases r;rfl
 | int _=>obtain ⟨t,rfl⟩:=r;rfl
 | str _=>obtain ⟨t,rfl⟩:=r;rfl
 | byt _=>obtain ⟨t,rfl⟩:=r;rfl
 | flt _=>obtain ⟨t,rfl⟩:=r;rfl
 | ref _=>cases r;rfl
 | ty _=>cases r;rfl
theorem RelV.inj {x y:V} {u:Value} (r:RelV x u) (q:RelV y u):x=y:=Option.some.inj (r.abs.symm.trans q.abs)
theorem Vals.inj:∀ {xs ys:List V} {us:List Value},Vals xs us->Vals ys us->xs=ys
 | _,_,_,.nil,.nil=>rfl
 | _,_,_,.cons r t,.cons r' t'=>by rw [r.inj r',Vals.inj t t']
section
variable {X:Cx} {pins:List (Addr × Obj)} {σ:St} {H:Hp} {s:Shared} {a:Addr} {xs ys:List V}
theorem SqL.of {K:PySem.W.Frag} (h:H a=some (.lst xs)):SqL K H a xs:=.inl (.inl h)
theorem SqT.of {K:PySem.W.Frag} (h:H a=some (.tup xs)):SqT K H a xs:=.inl (.inl h)
theorem Inv.list (I:Inv X pins σ H s) (h:SqL X.K H a xs):∃ its:List Value,Vals xs its/\PlainL s.heap a its.toArray/\xs.length<=sizeLine:=by
 rcases h with h | ⟨o,its,n,hk,hc,hd,hs,hz,r⟩
 ·obtain ⟨z,its,n,r,e⟩:=h.ok I.hok
  exact ⟨its,r,⟨_,n,e,rfl,rfl,rfl⟩,z⟩
 ·refine ⟨its.toList,r,⟨o,n,I.kIn a o hk,hc,hd,by simpa using hs⟩,?_⟩
  have e:=r.length
  simp only [Array.length_toList] at e
  omega
theorem Inv.tuple (I:Inv X pins σ H s) (h:SqT X.K H a xs):∃ its:List Value,Vals xs its/\IsTup s.heap a its.toArray/\xs.length<=sizeLine:=by
 rcases h with h | ⟨o,its,n,hk,hc,hs,hz,r⟩
 ·obtain ⟨z,its,r,p⟩:=h.ok I.hok
  exact ⟨its,r,p,z⟩
 ·refine ⟨its.toList,r,⟨o,I.kIn a o hk,hc,n,by simpa using hs⟩,?_⟩
  have e:=r.length
  simp only [Array.length_toList] at e
  omega
theorem Inv.list_inj (I:Inv X pins σ H s) (h:SqL X.K H a xs) (h':SqL X.K H a ys):xs=ys:=by
 obtain ⟨its,r,⟨o,n,e,_,_,d⟩,_⟩:=I.list h
 obtain ⟨its',r',⟨o',n',e',_,_,d'⟩,_⟩:=I.list h'
 rw [e] at e';cases e'
 rw [d] at d'
 injection d' with d1 _
 have:its=its':=by simpa using congrArg Array.toList d1
 subst this
 exact r.inj r'
theorem Inv.tuple_inj (I:Inv X pins σ H s) (h:SqT X.K H a xs) (h':SqT X.K H a ys):xs=ys:=by
 obtain ⟨its,r,⟨o,e,_,n,d⟩,_⟩:=I.tuple h
 obtain ⟨its',r',⟨o',e',_,n',d'⟩,_⟩:=I.tuple h'
 rw [e] at e';cases e'
 rw [d] at d'
 injection d' with d1 _
 have:its=its':=by simpa using congrArg Array.toList d1
 subst this
 exact r.inj r'
end
abbrev Cx.wish (X:Cx) (E:Value->Shared->Prop):Cx:={ X with xe:=E }
abbrev Cx.nox (X:Cx):Cx:=X.wish fun _ _=>False
theorem Cx.Ok.wish {X:Cx} (ok:X.Ok) (E:Value->Shared->Prop):(X.wish E).Ok:=
 ⟨ok.mod,ok.kind,ok.glob,ok.blt,ok.above,ok.inj,ok.has,ok.cab,ok.hd,ok.frames,ok.stk,ok.exf,ok.bs,ok.bsz,ok.noex,ok.exfs,ok.funs,ok.frf⟩
theorem Cx.Ok.unwish {X:Cx} {E:Value->Shared->Prop} (ok:(X.wish E).Ok):X.Ok:=
 ⟨ok.mod,ok.kind,ok.glob,ok.blt,ok.above,ok.inj,ok.has,ok.cab,ok.hd,ok.frames,ok.stk,ok.exf,ok.bs,ok.bsz,ok.noex,ok.exfs,ok.funs,ok.frf⟩
section
variable {X:Cx} {pins:List (Addr × Obj)} {σ:St} {H:Hp} {s:Shared} {E:Value->Shared->Prop}
theorem Inv.wish (I:Inv X pins σ H s) (E:Value->Shared->Prop):Inv (X.wish E) pins σ H s:=⟨I.ok.wish E,I.os,I.bare,I.base,I.loc,I.cell,I.free,I.freeC,I.pin,I.hok,I.len⟩
theorem Inv.unwish (I:Inv (X.wish E) pins σ H s):Inv X pins σ H s:=⟨I.ok.unwish,I.os,I.bare,I.base,I.loc,I.cell,I.free,I.freeC,I.pin,I.hok,I.len⟩
theorem SP.unwish {D:Ends} {f:Flow} {s':Shared} (h:SP (X.wish E) pins D f s'):SP X pins D f s':=by
 cases f with
 | next=>obtain ⟨σ',H',I,q⟩:=h;exact ⟨σ',H',I.unwish,q⟩
 | brk=>obtain ⟨σ',H',I,q⟩:=h;exact ⟨σ',H',I.unwish,q⟩
 | cont=>obtain ⟨σ',H',I,q⟩:=h;exact ⟨σ',H',I.unwish,q⟩
 | ret u=>obtain ⟨v,σ',H',I,r,q⟩:=h;exact ⟨v,σ',H',I.unwish,r,q⟩
theorem PSs.nox {st:List Stmt} {t:TS} (h:PSs X.nox st t):PSs X st t:=fun pins s σ H D I hw=>
 wpAny_mono (h pins s σ H D (I.wish _) hw) (fun _ _ q=>q.unwish) fun _ _ z=>False.elim z
end
section
variable {X:Cx} {st:Stmt} {rest:List Stmt} {t u:TS} {e:Expr} {te:TE} {pos:Pos}
def tNext:TS:=fun D σ H=>D.nx σ H
def tSeq (t u:TS):TS:=fun D σ H=>t { D with nx:=u D } σ H
theorem pss_nil:PSs X [] tNext:=fun _ _ σ H _ I h=>wpAny_execs_nil ⟨σ,H,I,h⟩
theorem pss_cons (h1:PS X st t) (h2:PSs X rest u):PSs X (st :: rest) (tSeq t u):=by
 intro pins s σ H D I h
 refine wpAny_execs_cons (thn (h1 pins s σ H { D with nx:=u D } I h) fun f s1 q=>?_)
 cases f with
 | next=>
  obtain ⟨σ',H',I',q⟩:=q
  exact h2 pins s1 σ' H' D I' q
 | ret v=>exact q
 | brk=>exact q
 | cont=>exact q
theorem pss_one (h1:PS X st t):PSs X [st] t:=by
 intro pins s σ H D I h
 refine wpAny_execs_cons (thn (h1 pins s σ H D I h) fun f s1 q=>?_)
 cases f with
 | next=>exact wpAny_execs_nil q
 | ret v=>exact q
 | brk=>exact q
 | cont=>exact q
theorem Inv.quiet {pins:List (Addr × Obj)} {σ:St} {H:Hp} {s:Shared} (I:Inv X pins σ H s):interactive X.env=false:=by simp [interactive,I.ok.kind]
def tDrop (te:TE):TS:=fun D σ H=>te σ H fun _ H1=>D.nx σ H1
theorem ps_expr (he:PE X e te) (hs:swapsWith e none pos.line X.env=pure false:=by rfl):PS X (.Expr e pos) (tDrop te):=by
 intro pins s σ H D I h
 exact wpAny_Expr_any (thn (he pins s σ H _ I h) fun v s1 ⟨x,H1,I1,r1,q1⟩=>⟨σ,H1,I1,q1⟩) I.quiet hs
def tRet (te:TE):TS:=fun D σ H=>te σ H D.rt
theorem ps_ret (he:PE X e te):PS X (.Return (some e) pos) (tRet te):=by
 intro pins s σ H D I h
 exact wpAny_Return_some (thn (he pins s σ H _ I h) fun v s1 ⟨x,H1,I1,r1,q1⟩=>⟨x,σ,H1,I1,r1,q1⟩)
def tIfS (c:TT) (t u:TS):TS:=fun D σ H=>c σ H fun b H1=>if b=true then t D σ H1 else u D σ H1
theorem ps_if {c:Expr} {a b:List Stmt} {tc:TT} (hc:PT X c tc) (ha:PSs X a t) (hb:PSs X b u):PS X (.If c a b pos) (tIfS tc t u):=by
 intro pins s σ H D I h
 refine wpAny_If (thn (hc pins s σ H _ I h) fun d s1 ⟨H1,I1,q1⟩=>?_)
 cases d with
 | true=>exact ha pins s1 σ H1 D I1 q1
 | false=>exact hb pins s1 σ H1 D I1 q1
def tNever:TS:=fun _ _ _=>False
theorem pss_never {sts:List Stmt}:PSs X sts tNever:=fun _ _ _ _ _ _ h=>h.elim
end
abbrev TG:=V->St->Hp->(St->Hp->Prop)->Prop
abbrev TGs:=List V->St->Hp->(St->Hp->Prop)->Prop
def PG (X:Cx) (target:Expr) (t:TG):Prop:=
 ∀ (pins:List (Addr × Obj)) (s:Shared) (σ:St) (H:Hp) (v:V) (u:Value) (Q:St->Hp->Prop),Inv X pins σ H s->RelV v u->t v σ H Q →
  wpAny (model X.prog X.w) X.A (assign target X.env u) (fun _ s'=>∃ σ' H',Inv X pins σ' H' s'/\Q σ' H') X.xe s
def PGs (X:Cx) (ts:List Expr) (t:TGs):Prop:=
 ∀ (pins:List (Addr × Obj)) (s:Shared) (σ:St) (H:Hp) (vs:List V) (us:List Value) (Q:St->Hp->Prop),Inv X pins σ H s->Vals vs us->t vs σ H Q →
  wpAny (model X.prog X.w) X.A (assignInOrder ((assignEach ts X.env).map (·.2)) us) (fun _ s'=>∃ σ' H',Inv X pins σ' H' s'/\Q σ' H') X.xe s
abbrev TSet:=V->V->V->Hp->(Hp->Prop)->Prop
def PSet (X:Cx) (t:TSet):Prop:=
 ∀ (pins:List (Addr × Obj)) (s:Shared) (σ:St) (H:Hp) (o i v:V) (ov iv u:Value) (Q:Hp->Prop),Inv X pins σ H s->RelV o ov->RelV i iv->RelV v u->t o i v H Q →
  wpAny (model X.prog X.w) X.A (setItem ov iv u) (fun _ s'=>∃ H',Inv X pins σ H' s'/\Q H') X.xe s
section
variable {X:Cx} {pos:Pos}
def gName (i:Nat):TG:=fun v σ H Q=>Q (σ.set i (some v)) H
theorem pg_name {i:Nat} {x:Str} (hN:X.N.Nodup) (hi:X.N[i]?=some x) (hx:Loc X.env.scope x) (hf:X.fn x=true\/X.env.scope.names.lookup x=some .local:=by first | exact .inl rfl | exact .inr rfl | assumption):PG X (.Name x pos) (gName i):=by
 intro pins s σ H v u Q I r h
 exact wpAny_assign_Name (store_ok I hN hi hx r (fun s' I'=>⟨_,H,I',h⟩) hf)
def gNil:TGs:=fun vs σ H Q=>vs=[]/\Q σ H
def gCons (t:TG) (u:TGs):TGs:=fun vs σ H Q=>∃ v r,vs=v :: r/\t v σ H fun σ' H'=>u r σ' H' Q
theorem pgs_nil:PGs X [] gNil:=by
 intro pins s σ H vs us Q I r h
 obtain ⟨e,h⟩:=h
 subst e
 cases r
 exact assignInOrder_nil ⟨σ,H,I,h⟩
theorem pgs_cons {e:Expr} {es:List Expr} {t:TG} {u:TGs} (h1:PG X e t) (h2:PGs X es u)
  (hs:(assignEach (e :: es) X.env).map (·.2)=assign e X.env :: (assignEach es X.env).map (·.2):=by rfl):PGs X (e :: es) (gCons t u):=by
 intro pins s σ H vs us Q I r h
 obtain ⟨v,vr,e1,h⟩:=h
 subst e1
 cases r with
 | cons r rr=>
  rw [hs]
  refine assignInOrder_cons (thn (h1 pins s σ H _ _ _ I r h) fun _ s1 ⟨σ1,H1,I1,q1⟩=>?_)
  exact h2 pins s1 σ1 H1 _ _ Q I1 rr q1
def gTup (K:PySem.W.Frag) (n:Nat) (t:TGs):TG:=fun v σ H Q=>∃ a xs,v=.ref a/\SqT K H a xs/\xs.length=n/\t xs σ H Q
theorem pg_tup {es:List Expr} {k:Nat} {t:TGs} {n:Nat} (hc:X.calm=true) (h:PGs X es t)
  (hn:(assignEach es X.env).length=n:=by rfl) (hst:(assignEach es X.env).findIdx? (·.1)=none:=by rfl):PG X (.Tuple es k pos) (gTup X.K n t):=by
 intro pins s σ H v u Q I r hw
 obtain ⟨a,xs,e1,hq,hl,hw⟩:=hw
 subst e1
 cases r
 obtain ⟨its,rv,ht,hz⟩:=I.tuple hq
 refine assign_Tuple_tuple (I.ok.hd hc) ht (by simp [hn,<-hl,rv.length]) hst fun h' hx=>?_
 have I1:Inv X pins σ H { s with heap:=h' }:=I.kept (t':=s.toks) fun b o e=>hx b o (Nat.ne_of_lt (Heap.lt_size e)) e
 exact h pins _ σ H xs _ Q I1 (by simpa using rv) hw
def gSub (to ti:TE) (t:TSet):TG:=fun v σ H Q=>to σ H fun o H1=>ti σ H1 fun i H2=>t o i v H2 fun H3=>Q σ H3
theorem pg_sub {o i:Expr} {to ti:TE} {t:TSet} (ho:PE X o to) (hi:PE X i ti) (hs:PSet X t)
  (ha:∀ v,assign (.Subscript o i pos) X.env v=(do
   let ov <-holding [v] (eval o X.env)
   let iv <-holding [v,ov] (eval i X.env)
   standAt pos
   holding [v,ov,iv] (setItem ov iv v)
   release [v,ov,iv] []):=by intro _;rfl):PG X (.Subscript o i pos) (gSub to ti t):=by
 intro pins s σ H v u Q I r h
 rw [ha]
 refine wpAny_bind (wpAny_holding (thn (ho pins s σ H _ I h) fun ov s1 ⟨x,H1,I1,r1,q1⟩=>?_))
 refine wpAny_bind (wpAny_holding (thn (hi pins s1 σ H1 _ I1 q1) fun iv s2 ⟨y,H2,I2,r2,q2⟩=>?_))
 refine wpAny_bind (wpAny_standAt (wpAny_bind (wpAny_holding (thn (hs pins s2 σ H2 x y v ov iv u _ I2 r1 r2 r q2) fun _ s3 ⟨H3,I3,q3⟩=>?_))))
 exact wpAny_release ⟨σ,H3,I3,q3⟩
def tAsg (te:TE) (g:TG):TS:=fun D σ H=>te σ H fun x H1=>g x σ H1 D.nx
theorem ps_asg {tg e:Expr} {te:TE} {g:TG} (he:PE X e te) (hg:PG X tg g) (hs:swapsWithSole [tg] e pos.line X.env=pure false:=by rfl) (hw:swappedStores [tg] e X.env=pure none:=by rfl)
  (h1:(assignEach [tg] X.env).map (·.2)=[assign tg X.env]:=by rfl):PS X (.Assign [tg] e pos) (tAsg te g):=by
 intro pins s σ H D I h
 refine wpAny_Assign_stores (thn (he pins s σ H _ I h) fun v s1 ⟨x,H1,I1,r1,q1⟩=>?_) hs hw
 rw [h1]
 exact thn (hg pins s1 σ H1 x v _ I1 r1 q1) fun _ s2 q=>q
theorem ps_set {i:Nat} {x:Str} {e:Expr} {te:TE} {pos':Pos} (hN:X.N.Nodup) (hi:X.N[i]?=some x) (hx:Loc X.env.scope x) (he:PE X e te) (hs:swapsWith e (some (.Name x pos')) pos.line X.env=pure false:=by rfl) (hf:X.fn x=true\/X.env.scope.names.lookup x=some .local:=by first | exact .inl rfl | exact .inr rfl | assumption) :
  PS X (.Assign [.Name x pos'] e pos) (tAsg te (gName i)):=by
 intro pins s σ H D I h
 refine wpAny_Assign_Name (thn (he pins s σ H _ I h) fun v s1 ⟨y,H1,I1,r1,q1⟩=>?_) hs
 exact store_ok I1 hN hi hx r1 (fun s2 I2=>⟨_,H1,I2,q1⟩) hf
end
section
variable {X:Cx} {pos:Pos}
def tWhile (c:TT) (tb:TS):TS:=fun D σ H=>∃ W:Nat->St->Hp->Prop,(∃ m,W m σ H)/\∀ m σ H,W m σ H →
 c σ H fun b H1=>if b=true then ∃ N:St->Hp->Prop,(∀ σ' H',N σ' H'->∃ m',m' < m/\W m' σ' H')/\tb { D with nx:=N,ct:=N,bk:=D.nx } σ H1 else D.nx σ H1
theorem ps_while {c:Expr} {body:List Stmt} {tc:TT} {tb:TS} (hp:PassesOwn (model X.prog X.w) X.A X.env X.xe) (hc:PT X c tc) (hb:PSs X body tb):PS X (.While c body [] pos) (tWhile tc tb):=by
 intro pins s σ H D I h
 obtain ⟨W,⟨m0,w0⟩,turn⟩:=h
 refine wpAny_While (codeAny_whileLoop (fun n s'=>∃ σ' H',Inv X pins σ' H' s'/\W n σ' H') ?_ m0 ⟨σ,H,I,w0⟩)
 rintro n s1 ⟨σ1,H1,I1,w1⟩
 refine wpAny_passesOwn hp (thn (hc pins s1 σ1 H1 _ I1 (turn n σ1 H1 w1)) fun b s2 ⟨H2,I2,q2⟩=>?_)
 cases b with
 | true=>
  obtain ⟨N,hN,q2⟩:=q2
  rw [if_pos rfl]
  refine wpAny_passesOwn hp (thn (hb pins s2 σ1 H2 _ I2 q2) fun f s3 q3=>?_)
  cases f with
  | next=>
   obtain ⟨σ3,H3,I3,n3⟩:=q3
   obtain ⟨m',hm,w3⟩:=hN σ3 H3 n3
   exact ⟨m',hm,σ3,H3,I3,w3⟩
  | cont=>
   obtain ⟨σ3,H3,I3,n3⟩:=q3
   obtain ⟨m',hm,w3⟩:=hN σ3 H3 n3
   exact ⟨m',hm,σ3,H3,I3,w3⟩
  | brk=>exact q3
  | ret v=>exact q3
 | false=>
  rw [if_neg Bool.false_ne_true]
  exact wpAny_execs_nil ⟨σ1,H2,I2,q2⟩
end
structure It where
 go:Nat->Hp->Prop
 yld:Nat->Hp->V->Hp->Prop
 stop:Nat->Hp->Prop
def FpOk (X:Cx) (pins:List (Addr × Obj)) (H:Hp) (b:Addr):Prop:=
 H b=none/\b ≠ X.env.locals/\b ∉ X.fs/\(b ∈ X.ex\/X.s₀.heap.objs.size<=b)/\(∀ x c,X.env.cells.lookup x=some c->c ≠ b)/\∀ p ∈ X.pn++pins,p.1 ≠ b
theorem Inv.fpOk {X:Cx} {pins:List (Addr × Obj)} {σ:St} {H H':Hp} {s:Shared} {b:Addr} (I:Inv X pins σ H s) (hb:s.heap.objs.size<=b) (hn:H' b=none):FpOk X pins H' b:=by
 refine ⟨hn,Nat.ne_of_gt (Nat.lt_of_lt_of_le I.lt hb),I.nofs hb,.inr (Nat.le_trans I.sz hb),fun x c e z=>?_,fun p hp z=>?_⟩
 ·obtain ⟨v,q⟩:=I.cell x c e
  exact absurd (Nat.lt_of_lt_of_le q.lt (by rw [z];exact hb)) (Nat.lt_irrefl _)
 ·exact absurd (Nat.lt_of_lt_of_le (Heap.lt_size (I.pin p hp).1) (by rw [z];exact hb)) (Nat.lt_irrefl _)
structure Turn (P:Program) (w:World) (K:PySem.W.Frag) (tg:Expr) (J:It) (fp:List Addr) (it:Addr) (tn:Nat->Heap->Prop):Prop where
 mem:it ∈ fp
 obj:∀ i h,tn i h->∀ b ∈ fp,∃ o,h.get? b=some o/\∀ v,o.data ≠ .cell v
 keep:∀ i h h',tn i h->(∀ b ∈ fp,∀ o,h.get? b=some o->h'.get? b=some o)->tn i h'
 item:∀ (X:Cx),X.prog=P->X.w=w->X.K=K->X.calm=true->∀ (i:Nat) (pins:List (Addr × Obj)) (s:Shared) (σ:St) (H:Hp) (E:Value->Shared->Prop),Inv X pins σ H s->(∀ b ∈ fp,FpOk X pins H b)->tn i s.heap->J.go i H →
  wpAny (model P w) X.A (pyNext (.ref it)) (fun r s1=>∃ u,r=some u ∧
   wpAny (model P w) X.A (letOwnedTupleGo tg (.ref it) u) (fun _ s2=>∃ x H',Inv X pins σ H' s2/\RelV x u/\J.yld i H x H'/\tn (i+1) s2.heap/\∀ b ∈ fp,H' b=none) E s1) E s
 done:∀ (X:Cx),X.prog=P->X.w=w->X.K=K->X.calm=true->∀ (i:Nat) (pins:List (Addr × Obj)) (s:Shared) (σ:St) (H:Hp) (E:Value->Shared->Prop),Inv X pins σ H s->(∀ b ∈ fp,FpOk X pins H b)->tn i s.heap->J.stop i H →
  wpAny (model P w) X.A (pyNext (.ref it)) (fun r s1=>r=none/\Inv X pins σ H s1) E s
 self:∀ (A:Around) (i:Nat) (s:Shared) (Q:Value->Shared->Prop) (E:Value->Shared->Prop),tn i s.heap->Q (.ref it) s->wpAny (model P w) A (pyIter (.ref it)) Q E s
abbrev TI:=St->Hp->(It->Hp->Prop)->Prop
def PIE (X:Cx) (pins:List (Addr × Obj)) (σ:St) (tg:Expr) (R:It->Hp->Prop) (itv:Value) (s2:Shared):Prop:=
 ∃ (it:Addr) (fp:List Addr) (tn:Nat->Heap->Prop) (J:It) (H':Hp),itv=.ref it/\Inv X pins σ H' s2/\Turn X.prog X.w X.K tg J fp it tn/\tn 0 s2.heap/\(∀ b ∈ fp,FpOk X pins H' b)/\R J H'
def PI (X:Cx) (tg iter:Expr) (wi:TI):Prop:=
 ∀ (pins:List (Addr × Obj)) (s:Shared) (σ:St) (H:Hp) (R:It->Hp->Prop),Inv X pins σ H s->wi σ H R →
  wpAny (model X.prog X.w) X.A (eval iter X.env) (fun v s1=>wpAny (model X.prog X.w) X.A (pyIter v) (PIE X pins σ tg R) X.xe s1) X.xe s
theorem go_of {M:Model} {A:Around} {E:Value->Shared->Prop} {s:Shared} {tg:Expr} {it:Addr} {u:Value} {o:Obj} {n:String} {vs:Array Value} {Q:Unit->Shared->Prop} (ho:s.heap.get? it=some o) (hc:o.cls=.type n) (hd:o.data=.fields vs)
    (hn:["enumerate","zip","dict_itemiterator","dict_reverseitemiterator","odict_iterator","itertools.zip_longest","itertools.pairwise"].contains n=false) (hQ:Q () s):wpAny M A (letOwnedTupleGo tg (.ref it) u) Q E s:=by
  unfold letOwnedTupleGo
  cases tg <;> first
    | exact wpAny_pure hQ
    | (cases u <;> first
        | exact wpAny_pure hQ
        | (refine wpAny_bind (wpAny_load ho ?_)
           rw [hc,hd]
           show wpAny M A (if (["enumerate","zip","dict_itemiterator","dict_reverseitemiterator","odict_iterator","itertools.zip_longest","itertools.pairwise"].contains n && vs[0]? == some (rawInt _))=true then _ else _) Q E s
           rw [if_neg (by intro h;rw [hn,Bool.false_and] at h;cases h)]
           exact wpAny_pure hQ))
def Itl (K:PySem.W.Frag) (a:Addr):It:=
 ⟨fun i H=>∃ xs x,SqL K H a xs/\xs[i]?=some x,fun i H x H'=>H'=H/\∀ xs,SqL K H a xs->xs[i]?=some x,fun i H=>∃ xs,SqL K H a xs/\xs.length<=i⟩
def Itt (K:PySem.W.Frag) (a:Addr):It:=
 ⟨fun i H=>∃ xs x,SqT K H a xs/\xs[i]?=some x,fun i H x H'=>H'=H/\∀ xs,SqT K H a xs->xs[i]?=some x,fun i H=>∃ xs,SqT K H a xs/\xs.length<=i⟩
def Itr (lo:Int) (n:Nat):It:=⟨fun i _=>i < n,fun i H x H'=>H'=H/\x=.int (lo+i),fun i _=>n<=i⟩
theorem turn_list {P:Program} {w:World} {K:PySem.W.Frag} {tg:Expr} (a it:Addr):Turn P w K tg (Itl K a) [it] it (fun i h=>h.IsListIter it a i) where
 mem:=by simp
 obj:=fun i h st b hb=>by
  have e:b=it:=by simpa using hb
  subst e
  obtain ⟨o,e,c,d⟩:=st
  exact ⟨o,e,fun v z=>by rw [d] at z;cases z⟩
 keep:=fun i h h' st k=>st.at fun o e=>k it (by simp) o e
 item:=by
  intro X hP hw hK hc i pins s σ H E I hf st hg
  subst hP hw hK
  obtain ⟨xs,x,hq,hx⟩:=hg
  obtain ⟨its,rv,p,hz⟩:=I.list hq
  obtain ⟨u,hu,ru⟩:=rv.get hx
  obtain ⟨f0,f1,f2,f3,f4,f5⟩:=hf it (by simp)
  refine wpAny_pyNext_list_item st p.isList (x:=u) (by simpa using hu) fun h' st' sb=>?_
  have I1:Inv X pins σ H { s with heap:=h' }:=I.turned (t':=s.toks) (fun b o hb e=>(sb.2 b hb).trans e) f0 f1 f3 f4 f5
  obtain ⟨o,e,c,d⟩:=id st'
  exact ⟨u,rfl,go_of (s:={ s with heap:=h' }) e c d (by decide) ⟨x,H,I1,ru,⟨rfl,fun ys hy=>by rw [I.list_inj hy hq];exact hx⟩,st',fun b hb=>(hf b hb).1⟩⟩
 done:=by
  intro X hP hw hK hc i pins s σ H E I hf st hg
  subst hP hw hK
  obtain ⟨xs,hq,hx⟩:=hg
  obtain ⟨its,rv,p,hz⟩:=I.list hq
  obtain ⟨f0,f1,f2,f3,f4,f5⟩:=hf it (by simp)
  have hl:=rv.length
  exact wpAny_pyNext_list_end (I.ok.hd hc) st p.isList (by simp;omega) fun h' eb=>⟨rfl,I.turned (t':=s.toks) (fun b o hb e=>eb b o hb e) f0 f1 f3 f4 f5⟩
 self:=fun _ _ _ _ _ st h=>wpAny_pyIter_listiter st h
theorem turn_tuple {P:Program} {w:World} {K:PySem.W.Frag} {tg:Expr} (a it:Addr):Turn P w K tg (Itt K a) [it] it (fun i h=>h.IsTupleIter it a i) where
 mem:=by simp
 obj:=fun i h st b hb=>by
  have e:b=it:=by simpa using hb
  subst e
  obtain ⟨o,e,c,d⟩:=st
  exact ⟨o,e,fun v z=>by rw [d] at z;cases z⟩
 keep:=fun i h h' st k=>st.at fun o e=>k it (by simp) o e
 item:=by
  intro X hP hw hK hc i pins s σ H E I hf st hg
  subst hP hw hK
  obtain ⟨xs,x,hq,hx⟩:=hg
  obtain ⟨its,rv,p,hz⟩:=I.tuple hq
  obtain ⟨u,hu,ru⟩:=rv.get hx
  obtain ⟨f0,f1,f2,f3,f4,f5⟩:=hf it (by simp)
  refine wpAny_pyNext_tuple_item st (show s.heap.IsTuple a its.toArray from p) (x:=u) (by simpa using hu) fun h' st' sb=>?_
  have I1:Inv X pins σ H { s with heap:=h' }:=I.turned (t':=s.toks) (fun b o hb e=>(sb.2 b hb).trans e) f0 f1 f3 f4 f5
  obtain ⟨o,e,c,d⟩:=id st'
  exact ⟨u,rfl,go_of (s:={ s with heap:=h' }) e c d (by decide) ⟨x,H,I1,ru,⟨rfl,fun ys hy=>by rw [I.tuple_inj hy hq];exact hx⟩,st',fun b hb=>(hf b hb).1⟩⟩
 done:=by
  intro X hP hw hK hc i pins s σ H E I hf st hg
  subst hP hw hK
  obtain ⟨xs,hq,hx⟩:=hg
  obtain ⟨its,rv,p,hz⟩:=I.tuple hq
  obtain ⟨f0,f1,f2,f3,f4,f5⟩:=hf it (by simp)
  have hl:=rv.length
  exact wpAny_pyNext_tuple_end (I.ok.hd hc) st (show s.heap.IsTuple a its.toArray from p) (by simp;omega) fun h' eb=>⟨rfl,I.turned (t':=s.toks) (fun b o hb e=>eb b o hb e) f0 f1 f3 f4 f5⟩
 self:=fun _ _ _ _ _ st h=>wpAny_pyIter_tupleiter st h
theorem turn_range {P:Program} {w:World} {K:PySem.W.Frag} {tg:Expr} (it:Addr) (lo:Int) (n:Nat):Turn P w K tg (Itr lo n) [it] it (fun i h=>IsRangeIter h it (lo+(i:Nat) * 1) ((n:Int) - (i:Nat)) 1) where
 mem:=by simp
 obj:=fun i h st b hb=>by
  have e:b=it:=by simpa using hb
  subst e
  exact ⟨_,st,fun v z=>by
   have z':Data.fields _=Data.cell v:=z
   cases z'⟩
 keep:=fun i h h' st k=>k it (by simp) _ st
 item:=by
  intro X hP hw hK hc i pins s σ H E I hf st hg
  subst hP hw hK
  obtain ⟨f0,f1,f2,f3,f4,f5⟩:=hf it (by simp)
  have W:=Walks.range (prog:=X.prog) (w:=X.w) (I.ok.hd hc) it lo 1 n
  refine W.item i s _ _ hg st fun v h' tk hv st' kk=>?_
  obtain ⟨t,rfl⟩:=hv
  have I1:Inv X pins σ H { s with heap:=h',toks:=tk }:=I.turned (fun b o hb e=>kk b o (by simpa using hb) e) f0 f1 f3 f4 f5
  refine ⟨_,rfl,go_of (s:={ s with heap:=h',toks:=tk }) (n := "range_iterator") st' rfl rfl (by decide) ⟨.int (lo+i),H,I1,⟨t,?_⟩,⟨rfl,rfl⟩,st',fun b hb=>(hf b hb).1⟩⟩
  rw [Int.mul_one]
 done:=by
  intro X hP hw hK hc i pins s σ H E I hf st hg
  subst hP hw hK
  obtain ⟨f0,f1,f2,f3,f4,f5⟩:=hf it (by simp)
  exact wpAny_pyNext_range_end (I.ok.hd hc) st (by have:n<=i:=hg;omega) fun h' eb=>⟨rfl,I.turned (t':=s.toks) (fun b o hb e=>eb b o hb e) f0 f1 f3 f4 f5⟩
 self:=fun _ _ _ _ _ st h=>wpAny_pyIter_rangeiter st h
end L2
namespace L2
open PySem PySem.Spec PyProof.Rows
section
variable {X:Cx} {tg:Expr}
def iList (K:PySem.W.Frag) (tl:TE):TI:=fun σ H R=>tl σ H fun x H1=>∃ a,x=.ref a/\(∃ xs,SqL K H1 a xs)/\R (Itl K a) H1
def iTup (K:PySem.W.Frag) (tl:TE):TI:=fun σ H R=>tl σ H fun x H1=>∃ a,x=.ref a/\(∃ xs,SqT K H1 a xs)/\R (Itt K a) H1
theorem pi_list {l:Expr} {tl:TE} (hl:PE X l tl):PI X tg l (iList X.K tl):=by
 intro pins s σ H R I h
 refine thn (hl pins s σ H _ I h) fun v s1 ⟨x,H1,I1,r1,q1⟩=>?_
 obtain ⟨a,e,⟨xs,hq⟩,q⟩:=q1
 subst e
 cases r1
 obtain ⟨its,rv,p,hz⟩:=I1.list hq
 refine wpAny_pyIter_list p.isList ?_
 refine ⟨s1.heap.objs.size,[s1.heap.objs.size],_,_,H1,rfl,I1.kept (t':=s1.toks) fun b o e=>Heap.get?_push_of_some _ e,turn_list a _,⟨_,Heap.get?_push_size _ rfl,rfl,rfl⟩,fun b hb=>?_,q⟩
 have e:b=s1.heap.objs.size:=by simpa using hb
 subst e
 exact I1.fpOk (Nat.le_refl _) (I1.hok.fresh (Nat.le_refl _))
theorem pi_tup {l:Expr} {tl:TE} (hl:PE X l tl):PI X tg l (iTup X.K tl):=by
 intro pins s σ H R I h
 refine thn (hl pins s σ H _ I h) fun v s1 ⟨x,H1,I1,r1,q1⟩=>?_
 obtain ⟨a,e,⟨xs,hq⟩,q⟩:=q1
 subst e
 cases r1
 obtain ⟨its,rv,p,hz⟩:=I1.tuple hq
 refine wpAny_pyIter_tuple (show s1.heap.IsTuple a its.toArray from p) ?_
 refine ⟨s1.heap.objs.size,[s1.heap.objs.size],_,_,H1,rfl,I1.kept (t':=s1.toks) fun b o e=>Heap.get?_push_of_some _ e,turn_tuple a _,⟨_,Heap.get?_push_size _ rfl,rfl,rfl⟩,fun b hb=>?_,q⟩
 have e:b=s1.heap.objs.size:=by simpa using hb
 subst e
 exact I1.fpOk (Nat.le_refl _) (I1.hok.fresh (Nat.le_refl _))
theorem range_it {pins:List (Addr × Obj)} {σ:St} {H:Hp} {s:Shared} {R:It->Hp->Prop} {E:Value->Shared->Prop} {lo hi:Int} {t u v:Tok} {tk:Nat} (I:Inv X pins σ H s) (h1:-(2 ^ 62)<=lo) (h2:lo < 2 ^ 62) (h3:-(2 ^ 62)<=hi) (h4:hi < 2 ^ 62)
  (q:R (Itr lo (hi - lo).toNat) H):wpAny (model X.prog X.w) X.A (pyIter (.ref s.heap.objs.size)) (PIE X pins σ tg R) E { s with heap:=s.heap.push { cls:=.type "range",data:=.fields #[.int lo t,.int hi u,.int 1 v] },toks:=tk }:=by
 refine wpAny_pyIter_range (IsRange.new ..) (small_one h1 h2 h3 h4) ?_
 have I1:Inv X pins σ H { s with heap:=s.heap.push { cls:=.type "range",data:=.fields #[.int lo t,.int hi u,.int 1 v] },toks:=tk }:=I.kept fun b o e=>Heap.get?_push_of_some _ e
 refine ⟨(s.heap.push { cls:=.type "range",data:=.fields #[.int lo t,.int hi u,.int 1 v] }).objs.size,[(s.heap.push { cls:=.type "range",data:=.fields #[.int lo t,.int hi u,.int 1 v] }).objs.size],_,_,H,rfl,
  I1.kept (t':=tk) fun b o e=>Heap.get?_push_of_some _ e,turn_range _ lo (hi - lo).toNat,?_,fun b hb=>?_,q⟩
 ·have e1:lo+((0:Nat):Int) * 1=lo:=by simp
  have e2:(((hi - lo).toNat:Nat):Int) - ((0:Nat):Int)=Builtin.Range.rangeSize lo hi 1:=by rw [rangeSize_one];split <;> omega
  show IsRangeIter _ _ (lo+((0:Nat):Int) * 1) ((((hi - lo).toNat:Nat):Int) - ((0:Nat):Int)) 1
  rw [e1,e2]
  exact Heap.get?_push_size _ rfl
 ·have e:b=(s.heap.push { cls:=.type "range",data:=.fields #[.int lo t,.int hi u,.int 1 v] }).objs.size:=by simpa using hb
  subst e
  exact I1.fpOk (Nat.le_refl _) (I1.hok.fresh (Nat.le_refl _))
def iRng1 (ta:TA):TI:=fun σ H R=>ta σ H fun vs H1=>∃ j:Int,vs=[.int j]/\-(2 ^ 62)<=j/\j < 2 ^ 62/\R (Itr 0 j.toNat) H1
def iRng2 (ta:TA):TI:=fun σ H R=>ta σ H fun vs H1=>∃ i j:Int,vs=[.int i,.int j]/\(-(2 ^ 62)<=i/\i < 2 ^ 62/\-(2 ^ 62)<=j/\j < 2 ^ 62)/\R (Itr i (j - i).toNat) H1
theorem pi_range1 {a:Expr} {ta:TA} {p pos:Pos} (hg:Gl X "range") (hm:X.mg "range" = none) (ha:PA X [a] ta) (hs:starEach [a] X.env=[(false,eval a X.env)]:=by rfl):PI X tg (.Call (.Name "range" p) [a] [] pos) (iRng1 ta):=by
 intro pins s σ H R I h
 refine Call_ (ld_blt I hg hm boot_range (PyProof.Rows.callWith_type1 (thn (ha pos pins s σ H _ I h) fun us s1 ⟨vs,H1,I1,r1,q1⟩=>?_) hs rfl))
 obtain ⟨j,e,q1,q2,q⟩:=q1
 subst e
 cases r1 with
 | cons r rr=>
  cases rr
  obtain ⟨t,rfl⟩:=r
  exact call_range_1 (range_it I1 (by omega) (by omega) q1 q2 (by simpa using q))
theorem pi_range2 {a b:Expr} {ta:TA} {p pos:Pos} (hg:Gl X "range") (hm:X.mg "range" = none) (ha:PA X [a,b] ta) (hs:starEach [a,b] X.env=[(false,eval a X.env),(false,eval b X.env)]:=by rfl) (hs2:starEach [b] X.env=[(false,eval b X.env)]:=by rfl) :
  PI X tg (.Call (.Name "range" p) [a,b] [] pos) (iRng2 ta):=by
 intro pins s σ H R I h
 refine Call_ (ld_blt I hg hm boot_range (PyProof.Rows.callWith_type1 (thn (ha pos pins s σ H _ I h) fun us s1 ⟨vs,H1,I1,r1,q1⟩=>?_) (by rw [hs,hs2]) (by rw [hs2];rfl)))
 obtain ⟨i,j,e,⟨q1,q2,q3,q4⟩,q⟩:=q1
 subst e
 cases r1 with
 | cons r rr=>
  cases rr with
  | cons r' rr=>
   cases rr
   obtain ⟨t,rfl⟩:=r
   obtain ⟨t',rfl⟩:=r'
   exact call_range_2 (range_it I1 q1 q2 q3 q4 q)
def tFor (wi:TI) (g:TG) (tb:TS):TS:=fun D σ H=>wi σ H fun J H1=>∃ W:Nat->Nat->St->Hp->Prop,(∃ m,W 0 m σ H1)/\∀ i m σ H,W i m σ H →
 (J.stop i H/\D.nx σ H)\/(J.go i H/\∃ N:St->Hp->Prop,(∀ σ' H',N σ' H'->∃ m',m' < m/\W (i+1) m' σ' H')/\∀ x H',J.yld i H x H'->g x σ H' fun σ2 H2=>tb { D with nx:=N,ct:=N,bk:=D.nx } σ2 H2)
def pinsAt (fp:List Addr) (h:Heap):List (Addr × Obj):=fp.filterMap fun b=>(h.get? b).map fun o=>(b,o)
theorem mem_pinsAt {fp:List Addr} {h:Heap} {b:Addr} {o:Obj} (hb:b ∈ fp) (e:h.get? b=some o):(b,o) ∈ pinsAt fp h:=List.mem_filterMap.mpr ⟨b,hb,by rw [e];rfl⟩
theorem of_pinsAt {fp:List Addr} {h:Heap} {p:Addr × Obj} (hp:p ∈ pinsAt fp h):p.1 ∈ fp/\h.get? p.1=some p.2:=by
 obtain ⟨b,hb,e⟩:=List.mem_filterMap.mp hp
 cases q:h.get? b with
 | none=>rw [q] at e;cases e
 | some o=>
  rw [q] at e
  have e':(b,o)=p:=Option.some.inj e
  subst e'
  exact ⟨hb,q⟩
theorem Inv.pinned {pins:List (Addr × Obj)} {σ:St} {H:Hp} {s:Shared} {fp:List Addr} (I:Inv X pins σ H s) (hf:∀ b ∈ fp,FpOk X pins H b) (ho:∀ b ∈ fp,∃ o,s.heap.get? b=some o/\∀ v,o.data ≠ .cell v):Inv X (pins++pinsAt fp s.heap) σ H s:=
 I.pins_of fun p hp=>(List.mem_append.mp hp).elim (fun z=>I.pin p (List.mem_append_right _ z)) fun z=>by
  obtain ⟨hb,e⟩:=of_pinsAt z
  obtain ⟨f0,f1,f2,_⟩:=hf p.1 hb
  obtain ⟨o,e',d⟩:=ho p.1 hb
  rw [e] at e';cases e'
  exact ⟨e,f0,f1,f2,d⟩
theorem Inv.unpinned {pins pl:List (Addr × Obj)} {σ:St} {H:Hp} {s:Shared} (I:Inv X (pins++pl) σ H s):Inv X pins σ H s:=I.pins_of fun p hp=>I.pin p (List.mem_append_right _ (List.mem_append_left _ hp))
theorem ps_for {iter:Expr} {body:List Stmt} {wi:TI} {g:TG} {tb:TS} {pos:Pos} (hp:PassesOwn (model X.prog X.w) X.A X.env X.xe) (hc:X.calm=true) (hi:PI X tg iter wi) (hg:PG X tg g) (hb:PSs X body tb)
  (hs:∀ x,foldedSetIterable iter X.env x=pure x:=by intro _;rfl):PS X (.For tg iter body [] pos) (tFor wi g tb):=by
 intro pins s σ H D I h
 refine wpAny_For (thn (hi pins s σ H _ I h) fun v s1 h1=>thn h1 fun itv s2 h2=>?_) hs
 obtain ⟨it,fp,tn,J,H2,e,I2,T,st2,f2,W,⟨m0,w0⟩,turn⟩:=h2
 subst e
 -- what stays true of the iterator's objects through the loop
 have stat:∀ {H':Hp},(∀ b ∈ fp,H' b=none)->∀ b ∈ fp,FpOk X pins H' b:=fun hn b hb=>⟨hn b hb,(f2 b hb).2⟩
 refine codeAny_forLoop_any (fun n s'=>∃ i σ' H',Inv X pins σ' H' s'/\tn i s'.heap/\(∀ b ∈ fp,H' b=none)/\W i n σ' H') ?_ m0 ⟨0,σ,H2,I2,st2,fun b hb=>(f2 b hb).1,w0⟩
 rintro n s3 ⟨i,σ3,H3,I3,st3,fr3,w3⟩
 rcases turn i n σ3 H3 w3 with ⟨stop,qn⟩ | ⟨go,N,hN,step⟩
 ·refine wpAny_passesOwn hp (thn (T.done X rfl rfl rfl hc i pins s3 σ3 H3 X.xe I3 (stat fr3) st3 stop) fun r s4 ⟨hr,I4⟩=>?_)
  subst hr
  exact wpAny_execs_nil ⟨σ3,H3,I4,qn⟩
 ·refine wpAny_passesOwn hp (thn (T.item X rfl rfl rfl hc i pins s3 σ3 H3 X.xe I3 (stat fr3) st3 go) fun r s4 ⟨u,hr,h4⟩=>?_)
  subst hr
  refine wpAny_passesOwn hp (thn h4 fun _ s5 ⟨x,H5,I5,r5,y5,st5,fr5⟩=>?_)
  have I5':=I5.pinned (stat fr5) (T.obj _ _ st5)
  refine wpAny_passesOwn hp (thn (hg _ s5 σ3 H5 x u _ I5' r5 (step x H5 y5)) fun _ s6 ⟨σ6,H6,I6,q6⟩=>?_)
  refine wpAny_passesOwn hp (thn (hb _ s6 σ6 H6 _ I6 q6) fun f s7 q7=>?_)
  have again:∀ {σ7:St} {H7:Hp},Inv X (pins++pinsAt fp s5.heap) σ7 H7 s7->N σ7 H7->∃ m,m < n/\∃ i σ' H',Inv X pins σ' H' s7/\tn i s7.heap/\(∀ b ∈ fp,H' b=none)/\W i m σ' H':=fun {σ7 H7} I7 n7=>by
   obtain ⟨m',hm,w7⟩:=hN σ7 H7 n7
   refine ⟨m',hm,i+1,σ7,H7,I7.unpinned,T.keep _ _ _ st5 fun b hb o e=>(I7.pin (b,o) (List.mem_append_right _ (List.mem_append_right _ (mem_pinsAt hb e)))).1,fun b hb=>?_,w7⟩
   obtain ⟨o,e,d⟩:=T.obj _ _ st5 b hb
   exact (I7.pin (b,o) (List.mem_append_right _ (List.mem_append_right _ (mem_pinsAt hb e)))).2.1
  cases f with
  | next=>obtain ⟨σ7,H7,I7,n7⟩:=q7;exact again I7 n7
  | cont=>obtain ⟨σ7,H7,I7,n7⟩:=q7;exact again I7 n7
  | brk=>obtain ⟨σ7,H7,I7,q7⟩:=q7;exact ⟨σ7,H7,I7.unpinned,q7⟩
  | ret v=>obtain ⟨x7,σ7,H7,I7,r7,q7⟩:=q7;exact ⟨x7,σ7,H7,I7.unpinned,r7,q7⟩
end
theorem for_list {K:PySem.W.Frag} {a:Addr} {xs:List V} {g:TG} {tb:TS} {D:Ends} {σ:St} {H:Hp} (Pv:Nat->St->Hp->Prop) (h0:Pv 0 σ H) (hl:∀ i σ H,i<=xs.length->Pv i σ H->SqL K H a xs)
  (hs:∀ i x σ H,xs[i]?=some x->Pv i σ H->g x σ H fun σ2 H2=>tb { D with nx:=Pv (i+1),ct:=Pv (i+1),bk:=D.nx } σ2 H2) (hd:∀ σ H,Pv xs.length σ H->D.nx σ H) :
  ∃ W:Nat->Nat->St->Hp->Prop,(∃ m,W 0 m σ H)/\∀ i m σ H,W i m σ H →
   ((Itl K a).stop i H/\D.nx σ H)\/((Itl K a).go i H/\∃ N:St->Hp->Prop,(∀ σ' H',N σ' H'->∃ m',m' < m/\W (i+1) m' σ' H')/\∀ x H',(Itl K a).yld i H x H'->g x σ H' fun σ2 H2=>tb { D with nx:=N,ct:=N,bk:=D.nx } σ2 H2):=by
 refine ⟨fun i m σ H=>m=xs.length - i/\i<=xs.length/\Pv i σ H,⟨xs.length,by simp,Nat.zero_le _,h0⟩,?_⟩
 rintro i m σ H ⟨rfl,hi,p⟩
 have q:=hl i σ H hi p
 by_cases hlt:i < xs.length
 ·refine .inr ⟨⟨xs,xs[i],q,by simp [hlt]⟩,Pv (i+1),fun σ' H' p'=>⟨xs.length - (i+1),by omega,rfl,hlt,p'⟩,fun x H' y=>?_⟩
  obtain ⟨e,y⟩:=y
  subst e
  exact hs i x σ _ (y xs q) p
 ·have e:i=xs.length:=by omega
  subst e
  exact .inl ⟨⟨xs,q,Nat.le_refl _⟩,hd σ H p⟩
theorem for_tup {K:PySem.W.Frag} {a:Addr} {xs:List V} {g:TG} {tb:TS} {D:Ends} {σ:St} {H:Hp} (Pv:Nat->St->Hp->Prop) (h0:Pv 0 σ H) (hl:∀ i σ H,i<=xs.length->Pv i σ H->SqT K H a xs)
  (hs:∀ i x σ H,xs[i]?=some x->Pv i σ H->g x σ H fun σ2 H2=>tb { D with nx:=Pv (i+1),ct:=Pv (i+1),bk:=D.nx } σ2 H2) (hd:∀ σ H,Pv xs.length σ H->D.nx σ H) :
  ∃ W:Nat->Nat->St->Hp->Prop,(∃ m,W 0 m σ H)/\∀ i m σ H,W i m σ H →
   ((Itt K a).stop i H/\D.nx σ H)\/((Itt K a).go i H/\∃ N:St->Hp->Prop,(∀ σ' H',N σ' H'->∃ m',m' < m/\W (i+1) m' σ' H')/\∀ x H',(Itt K a).yld i H x H'->g x σ H' fun σ2 H2=>tb { D with nx:=N,ct:=N,bk:=D.nx } σ2 H2):=by
 refine ⟨fun i m σ H=>m=xs.length - i/\i<=xs.length/\Pv i σ H,⟨xs.length,by simp,Nat.zero_le _,h0⟩,?_⟩
 rintro i m σ H ⟨rfl,hi,p⟩
 have q:=hl i σ H hi p
 by_cases hlt:i < xs.length
 ·refine .inr ⟨⟨xs,xs[i],q,by simp [hlt]⟩,Pv (i+1),fun σ' H' p'=>⟨xs.length - (i+1),by omega,rfl,hlt,p'⟩,fun x H' y=>?_⟩
  obtain ⟨e,y⟩:=y
  subst e
  exact hs i x σ _ (y xs q) p
 ·have e:i=xs.length:=by omega
  subst e
  exact .inl ⟨⟨xs,q,Nat.le_refl _⟩,hd σ H p⟩
theorem for_range {lo:Int} {n:Nat} {g:TG} {tb:TS} {D:Ends} {σ:St} {H:Hp} (Pv:Nat->St->Hp->Prop) (h0:Pv 0 σ H)
  (hs:∀ i σ H,i < n->Pv i σ H->g (.int (lo+i)) σ H fun σ2 H2=>tb { D with nx:=Pv (i+1),ct:=Pv (i+1),bk:=D.nx } σ2 H2) (hd:∀ σ H,Pv n σ H->D.nx σ H) :
  ∃ W:Nat->Nat->St->Hp->Prop,(∃ m,W 0 m σ H)/\∀ i m σ H,W i m σ H →
   ((Itr lo n).stop i H/\D.nx σ H)\/((Itr lo n).go i H/\∃ N:St->Hp->Prop,(∀ σ' H',N σ' H'->∃ m',m' < m/\W (i+1) m' σ' H')/\∀ x H',(Itr lo n).yld i H x H'->g x σ H' fun σ2 H2=>tb { D with nx:=N,ct:=N,bk:=D.nx } σ2 H2):=by
 refine ⟨fun i m σ H=>m=n - i/\i<=n/\Pv i σ H,⟨n,by simp,Nat.zero_le _,h0⟩,?_⟩
 rintro i m σ H ⟨rfl,hi,p⟩
 by_cases hlt:i < n
 ·refine .inr ⟨hlt,Pv (i+1),fun σ' H' p'=>⟨n - (i+1),by omega,rfl,hlt,p'⟩,fun x H' y=>?_⟩
  obtain ⟨e,y⟩:=y
  subst e y
  exact hs i σ _ hlt p
 ·have e:i=n:=by omega
  subst e
  exact .inl ⟨Nat.le_refl _,hd σ H p⟩
end L2
namespace L2
open PySem PySem.Spec PyProof.Rows
abbrev R2:=V->V->Hp->VK->Prop
def OpR (X:Cx) (f:Value->Value->Sem Value) (r:R2):Prop:=
 ∀ (pins:List (Addr × Obj)) (s:Shared) (σ:St) (H:Hp) (x y:V) (v u:Value) (Q:VK),Inv X pins σ H s->RelV x v->RelV y u->r x y H Q →
  wpAny (model X.prog X.w) X.A (f v u) (EP X pins σ Q) X.xe s
def UnR (X:Cx) (f:Value->Sem Value) (r:V->Hp->VK->Prop):Prop:=
 ∀ (pins:List (Addr × Obj)) (s:Shared) (σ:St) (H:Hp) (x:V) (v:Value) (Q:VK),Inv X pins σ H s->RelV x v->r x H Q →
  wpAny (model X.prog X.w) X.A (f v) (EP X pins σ Q) X.xe s
def CallR (X:Cx) (f:Value) (r:List V->Hp->VK->Prop):Prop:=
 ∀ (pins:List (Addr × Obj)) (s:Shared) (σ:St) (H:Hp) (xs:List V) (us:List Value) (Q:VK),Inv X pins σ H s->Vals xs us->r xs H Q →
  wpAny (model X.prog X.w) X.A (call f us) (EP X pins σ Q) X.xe s
def tOp (r:R2) (ta tb:TE):TE:=fun σ H Q=>ta σ H fun x H1=>tb σ H1 fun y H2=>r x y H2 Q
def tUn (r:V->Hp->VK->Prop) (ta:TE):TE:=fun σ H Q=>ta σ H fun x H1=>r x H1 Q
def rI (C:Int->Int->Prop) (g:Int->Int->V):R2:=fun x y H Q=>∃ i j,x=.int i/\y=.int j/\C i j/\Q (g i j) H
def rI0 (g:Int->Int->V):R2:=fun x y H Q=>∃ i j,x=.int i/\y=.int j/\Q (g i j) H
def rU (g:Int->V):V->Hp->VK->Prop:=fun x H Q=>∃ i,x=.int i/\Q (g i) H
section
variable {X:Cx} {a b c:Expr} {ta tb tc:TE} {pos:Pos}
theorem binT (ha:PE X a ta) (hb:PE X b tb) {pins:List (Addr × Obj)} {s:Shared} {σ:St} {H:Hp} {R:V->V->Hp->Prop} (I:Inv X pins σ H s)
  (h:ta σ H fun x H1=>tb σ H1 fun y H2=>R x y H2) {Q:Value->Shared->Prop} {f:Value->Value->Sem Value}
  (hf:∀ v u s2 x y H2,Inv X pins σ H2 s2->RelV x v->RelV y u->R x y H2->wpAny (model X.prog X.w) X.A (f v u) Q X.xe s2) :
  wpAny (model X.prog X.w) X.A (eval a X.env) (fun v s₁=>wpAny (model X.prog X.w) X.A (eval b X.env) (fun u s₂=>wpAny (model X.prog X.w) X.A (f v u) Q X.xe s₂) X.xe s₁) X.xe s:=by
 refine thn (ha pins s σ H _ I h) fun v s1 ⟨x,H1,I1,r1,q1⟩=>?_
 refine thn (hb pins s1 σ H1 _ I1 q1) fun u s2 ⟨y,H2,I2,r2,q2⟩=>?_
 exact hf v u s2 x y H2 I2 r1 r2 q2
theorem pe_op {op:Operator} {r:R2} (ho:OpR X (binaryOp op) r) (ha:PE X a ta) (hb:PE X b tb):PE X (.BinOp a op b pos) (tOp r ta tb):=by
 intro pins s σ H Q I h
 exact wpAny_BinOp (binT ha hb I h fun v u s2 x y H2 I2 rx ry q=>ho pins s2 σ H2 x y v u Q I2 rx ry q)
theorem pe_un {op:UnaryOp} {r:V->Hp->VK->Prop} (ho:UnR X (unaryOp op) r) (ha:PE X a ta):PE X (.UnaryOp op a pos) (tUn r ta):=by
 intro pins s σ H Q I h
 exact UnaryOp_ (thn (ha pins s σ H _ I h) fun v s1 ⟨x,H1,I1,r1,q1⟩=>ho pins s1 σ H1 x v Q I1 r1 q1)
theorem opI {f:Value->Value->Sem Value} {C:Int->Int->Prop} {g:Int->Int->Int}
  (rule:∀ (i j:Int) (t u:Tok) (s:Shared) (Q:Value->Shared->Prop) (E:Value->Shared->Prop),C i j->Q (.int (g i j) s.toks) { s with toks:=s.toks+1 }->wpAny (model X.prog X.w) X.A (f (.int i t) (.int j u)) Q E s) :
  OpR X f (rI C fun i j=>.int (g i j)):=by
 intro pins s σ H x y v u Q I rx ry h
 obtain ⟨i,j,rfl,rfl,hc,q⟩:=h
 obtain ⟨t,rfl⟩:=rx
 obtain ⟨t',rfl⟩:=ry
 exact rule i j t t' s _ _ hc ⟨.int (g i j),H,I.tok _,⟨_,rfl⟩,q⟩
theorem opI0 {f:Value->Value->Sem Value} {g:Int->Int->Int}
  (rule:∀ (i j:Int) (t u:Tok) (s:Shared) (Q:Value->Shared->Prop) (E:Value->Shared->Prop),Q (.int (g i j) s.toks) { s with toks:=s.toks+1 }->wpAny (model X.prog X.w) X.A (f (.int i t) (.int j u)) Q E s) :
  OpR X f (rI0 fun i j=>.int (g i j)):=by
 intro pins s σ H x y v u Q I rx ry h
 obtain ⟨i,j,rfl,rfl,q⟩:=h
 obtain ⟨t,rfl⟩:=rx
 obtain ⟨t',rfl⟩:=ry
 exact rule i j t t' s _ _ ⟨.int (g i j),H,I.tok _,⟨_,rfl⟩,q⟩
theorem opB0 {f:Value->Value->Sem Value} {g:Int->Int->Bool}
  (rule:∀ (i j:Int) (t u:Tok) (s:Shared) (Q:Value->Shared->Prop) (E:Value->Shared->Prop),Q (.bool (g i j)) s->wpAny (model X.prog X.w) X.A (f (.int i t) (.int j u)) Q E s) :
  OpR X f (rI0 fun i j=>.bl (g i j)):=by
 intro pins s σ H x y v u Q I rx ry h
 obtain ⟨i,j,rfl,rfl,q⟩:=h
 obtain ⟨t,rfl⟩:=rx
 obtain ⟨t',rfl⟩:=ry
 exact rule i j t t' s _ _ ⟨.bl (g i j),H,I,rfl,q⟩
def CDiv (i j:Int):Prop:=0 < j/\j < 1073741824
def CPow (i j:Int):Prop:=0<=j/\j<=1000000/\i.natAbs < 2 ^ 64
def CMul (i j:Int):Prop:=(-(2 ^ 64) < i/\i < 2 ^ 64)\/(-(2 ^ 64) < j/\j < 2 ^ 64)
theorem CMul.ok {i j:Int} (h:CMul i j):IntMulOk i j:=by
 rcases h with ⟨h1,h2⟩ | ⟨h1,h2⟩
 ·exact .of_left (intBits_le_64 h1 h2)
 ·exact .of_right (intBits_le_64 h1 h2)
theorem op_add:OpR X (binaryOp .Add) (rI0 fun i j=>.int (i+j)):=opI0 fun _ _ _ _ _ _ _ q=>add_int q
theorem op_sub:OpR X (binaryOp .Sub) (rI0 fun i j=>.int (i - j)):=opI0 fun _ _ _ _ _ _ _ q=>sub_int q
theorem op_mul:OpR X (binaryOp .Mult) (rI CMul fun i j=>.int (i * j)):=opI fun _ _ _ _ _ _ _ hc q=>mul_int q hc.ok
theorem op_fdiv:OpR X (binaryOp .FloorDiv) (rI CDiv fun i j=>.int (i / j)):=opI fun i j _ _ _ _ _ hc q=>by
 have h1:(0:Int) < j:=hc.1
 have h2:j < 1073741824:=hc.2
 exact floordiv_int (by omega) (by rw [Int.fdiv_eq_ediv_of_nonneg i (by omega)];exact q) (.inl (PyProof.noPylong_small (by omega)))
theorem op_mod:OpR X (binaryOp .Mod) (rI (fun _ j=>0 < j) fun i j=>.int (i % j)):=opI fun i j _ _ _ _ _ hc q=>by
 have h1:(0:Int) < j:=hc
 exact mod_int' (by omega) (by rw [Int.fmod_eq_emod_of_nonneg i (by omega)];exact q)
theorem op_pow:OpR X (binaryOp .Pow) (rI CPow fun i j=>.int (i ^ j.toNat)):=opI fun _ _ _ _ _ _ _ hc q=>pow_int_small hc.1 hc.2.1 hc.2.2 q
theorem unI {f:Value->Sem Value} {g:Int->Int}
  (rule:∀ (i:Int) (t:Tok) (s:Shared) (Q:Value->Shared->Prop) (E:Value->Shared->Prop),Q (.int (g i) s.toks) { s with toks:=s.toks+1 }->wpAny (model X.prog X.w) X.A (f (.int i t)) Q E s) :
  UnR X f (rU fun i=>.int (g i)):=by
 intro pins s σ H x v Q I rx h
 obtain ⟨i,rfl,q⟩:=h
 obtain ⟨t,rfl⟩:=rx
 exact rule i t s _ _ ⟨.int (g i),H,I.tok _,⟨_,rfl⟩,q⟩
theorem un_neg:UnR X (unaryOp .USub) (rU fun i=>.int (-i)):=unI fun _ _ _ _ _ q=>neg_int q
end
def scal:V->V->Bool
 | .non,.non=>true | .non,.int _=>true | .int _,.non=>true | .non,.bl _=>true | .bl _,.non=>true | .non,.str _=>true | .str _,.non=>true
 | .int _,.int _=>true | .bl _,.bl _=>true | .str _,.str _=>true | .byt _,.byt _=>true
 | .int _,.str _=>true | .str _,.int _=>true | .bl _,.str _=>true | .str _,.bl _=>true
 | _,_=>false
def rEq:R2:=fun x y H Q=>scal x y=true/\Q (.bl (decide (x=y))) H
def rNe:R2:=fun x y H Q=>scal x y=true/\Q (.bl (!decide (x=y))) H
theorem dec_int {i j:Int}:decide (V.int i=V.int j)=(i == j):=by
 rw [Bool.eq_iff_iff]
 simp
theorem dec_bl {i j:Bool}:decide (V.bl i=V.bl j)=(i == j):=by
 rw [Bool.eq_iff_iff]
 simp
theorem dec_str {i j:Str}:decide (V.str i=V.str j)=(i == j):=by
 rw [Bool.eq_iff_iff]
 simp
theorem dec_byt {i j:Array UInt8}:decide (V.byt i=V.byt j)=(i.toList == j.toList):=by
 rw [Bool.eq_iff_iff]
 cases i
 cases j
 simp
section
variable {X:Cx} {a b c:Expr} {ta tb tc:TE} {pos:Pos}
theorem fin_bl {pins:List (Addr × Obj)} {σ:St} {H:Hp} {s:Shared} {Q:VK} {k k':Bool} (I:Inv X pins σ H s) (q:Q (.bl k) H) (e:k=k'):EP X pins σ Q (.bool k') s:=by
 subst e
 exact ⟨.bl k,H,I,rfl,q⟩
theorem op_eq:OpR X (compareOp .Eq) rEq:=by
 intro pins s σ H x y v u Q I rx ry h
 obtain ⟨hs,q⟩:=h
 cases x with
 | non=>
  cases rx
  cases y with
  | non=>cases ry;exact PySem.EqNone.eq_none_none (fin_bl I q (by simp))
  | bl j=>cases ry;exact PySem.EqNone.eq_none_bool (fin_bl I q (by simp))
  | int j=>obtain ⟨t',rfl⟩:=ry;exact PySem.EqNone.eq_none_int (fin_bl I q (by simp))
  | str j=>obtain ⟨t',rfl⟩:=ry;exact PySem.EqNone.eq_none_str (fin_bl I q (by simp))
  | _=>exact absurd (show false=true from hs) Bool.false_ne_true
 | bl i=>
  cases rx
  cases y with
  | non=>cases ry;exact PySem.EqNone.eq_bool_none (fin_bl I q (by simp))
  | bl j=>cases ry;exact eq_bool (fin_bl I q dec_bl)
  | str j=>obtain ⟨t',rfl⟩:=ry;exact PySem.EqMixed.eq_bool_str (fin_bl I q (by simp))
  | _=>exact absurd (show false=true from hs) Bool.false_ne_true
 | int i=>
  obtain ⟨t,rfl⟩:=rx
  cases y with
  | non=>cases ry;exact PySem.EqNone.eq_int_none (fin_bl I q (by simp))
  | int j=>obtain ⟨t',rfl⟩:=ry;exact eq_int (fin_bl I q dec_int)
  | str j=>obtain ⟨t',rfl⟩:=ry;exact PySem.EqMixed.eq_int_str (fin_bl I q (by simp))
  | _=>exact absurd (show false=true from hs) Bool.false_ne_true
 | str i=>
  obtain ⟨t,rfl⟩:=rx
  cases y with
  | non=>cases ry;exact PySem.EqNone.eq_str_none (fin_bl I q (by simp))
  | bl j=>cases ry;exact PySem.EqMixed.eq_str_bool (fin_bl I q (by simp))
  | int j=>obtain ⟨t',rfl⟩:=ry;exact PySem.EqMixed.eq_str_int (fin_bl I q (by simp))
  | str j=>obtain ⟨t',rfl⟩:=ry;exact eq_str (fin_bl I q dec_str)
  | _=>exact absurd (show false=true from hs) Bool.false_ne_true
 | byt i=>
  obtain ⟨t,rfl⟩:=rx
  cases y with
  | byt j=>obtain ⟨t',rfl⟩:=ry;exact PySem.W.eq_bytes (fin_bl I q dec_byt)
  | _=>exact absurd (show false=true from hs) Bool.false_ne_true
 | _=>cases y <;> exact absurd (show false=true from hs) Bool.false_ne_true
theorem op_ne:OpR X (compareOp .NotEq) rNe:=by
 intro pins s σ H x y v u Q I rx ry h
 obtain ⟨hs,q⟩:=h
 cases x with
 | non=>
  cases rx
  cases y with
  | non=>cases ry;exact PySem.EqNone.ne_none_none (fin_bl I q (by simp))
  | bl j=>cases ry;exact PySem.EqNone.ne_none_bool (fin_bl I q (by simp))
  | int j=>obtain ⟨t',rfl⟩:=ry;exact PySem.EqNone.ne_none_int (fin_bl I q (by simp))
  | str j=>obtain ⟨t',rfl⟩:=ry;exact PySem.EqNone.ne_none_str (fin_bl I q (by simp))
  | _=>exact absurd (show false=true from hs) Bool.false_ne_true
 | bl i=>
  cases rx
  cases y with
  | non=>cases ry;exact PySem.EqNone.ne_bool_none (fin_bl I q (by simp))
  | bl j=>cases ry;exact ne_bool (fin_bl I q (congrArg not dec_bl))
  | str j=>obtain ⟨t',rfl⟩:=ry;exact PySem.EqMixed.ne_bool_str (fin_bl I q (by simp))
  | _=>exact absurd (show false=true from hs) Bool.false_ne_true
 | int i=>
  obtain ⟨t,rfl⟩:=rx
  cases y with
  | non=>cases ry;exact PySem.EqNone.ne_int_none (fin_bl I q (by simp))
  | int j=>obtain ⟨t',rfl⟩:=ry;exact ne_int (fin_bl I q (congrArg not dec_int))
  | str j=>obtain ⟨t',rfl⟩:=ry;exact PySem.EqMixed.ne_int_str (fin_bl I q (by simp))
  | _=>exact absurd (show false=true from hs) Bool.false_ne_true
 | str i=>
  obtain ⟨t,rfl⟩:=rx
  cases y with
  | non=>cases ry;exact PySem.EqNone.ne_str_none (fin_bl I q (by simp))
  | bl j=>cases ry;exact PySem.EqMixed.ne_str_bool (fin_bl I q (by simp))
  | int j=>obtain ⟨t',rfl⟩:=ry;exact PySem.EqMixed.ne_str_int (fin_bl I q (by simp))
  | str j=>obtain ⟨t',rfl⟩:=ry;exact ne_str (fin_bl I q (congrArg not dec_str))
  | _=>exact absurd (show false=true from hs) Bool.false_ne_true
 | byt i=>
  obtain ⟨t,rfl⟩:=rx
  cases y with
  | byt j=>obtain ⟨t',rfl⟩:=ry;exact PySem.W.ne_bytes (fin_bl I q (congrArg not dec_byt))
  | _=>exact absurd (show false=true from hs) Bool.false_ne_true
 | _=>cases y <;> exact absurd (show false=true from hs) Bool.false_ne_true
theorem op_lt:OpR X (compareOp .Lt) (rI0 fun i j=>.bl (decide (i < j))):=opB0 fun _ _ _ _ _ _ _ q=>lt_int q
theorem op_le:OpR X (compareOp .LtE) (rI0 fun i j=>.bl (decide (i<=j))):=opB0 fun _ _ _ _ _ _ _ q=>le_int q
theorem op_gt:OpR X (compareOp .Gt) (rI0 fun i j=>.bl (decide (j < i))):=opB0 fun _ _ _ _ _ _ _ q=>gt_int q
theorem op_ge:OpR X (compareOp .GtE) (rI0 fun i j=>.bl (decide (j<=i))):=opB0 fun _ _ _ _ _ _ _ q=>ge_int q
theorem op_in_str:OpR X (compareOp .In) (fun x y H Q=>∃ i j,x=.str i/\y=.str j/\Q (.bl (!(Builtin.Str.occurrences j i 0 j.length 1).isEmpty)) H):=by
 intro pins s σ H x y v u Q I rx ry h
 obtain ⟨i,j,rfl,rfl,q⟩:=h
 obtain ⟨t,rfl⟩:=rx
 obtain ⟨t',rfl⟩:=ry
 exact in_str (fin_bl I q rfl)
theorem op_isN:OpR X (compareOp .Is) (fun x y H Q=>y=.non/\Q (.bl (decide (x=.non))) H):=by
 intro pins s σ H x y v u Q I rx ry h
 obtain ⟨rfl,q⟩:=h
 cases ry
 refine is_none_gen (fin_bl I q ?_)
 cases x <;> first
  | (cases rx;rfl)
  | (obtain ⟨t,rfl⟩:=rx;rfl)
theorem op_notN:OpR X (compareOp .IsNot) (fun x y H Q=>y=.non/\Q (.bl (!decide (x=.non))) H):=by
 intro pins s σ H x y v u Q I rx ry h
 obtain ⟨rfl,q⟩:=h
 cases ry
 refine isnot_none_gen (fin_bl I q ?_)
 cases x <;> first
  | (cases rx;rfl)
  | (obtain ⟨t,rfl⟩:=rx;rfl)
theorem nomark (b:Expr) {op:CmpOp} (h:op ≠ .In:=by decide) (h2:op ≠ .NotIn:=by decide):behindInMarks op b=false:=by
 have e1:(op == CmpOp.In)=false:=by cases op <;> first | rfl | exact absurd rfl h
 have e2:(op == CmpOp.NotIn)=false:=by cases op <;> first | rfl | exact absurd rfl h2
 cases b <;> simp [behindInMarks,e1,e2]
theorem pe_cmpR {op:CmpOp} {r:R2} (ho:OpR X (compareOp op) r) (ha:PE X a ta) (hb:PE X b tb) (hm:behindInMarks op b=false):PE X (.Compare a [op] [b] pos) (tOp r ta tb):=by
 intro pins s σ H Q I h
 exact wpAny_Compare1 (binT ha hb I h fun v u s2 x y H2 I2 rx ry q=>ho pins s2 σ H2 x y v u Q I2 rx ry q) hm
def tTest (t:TE):TT:=fun σ H Q=>t σ H fun x H'=>∃ k,x=.bl k/\Q k H'
theorem pt_cmpR {op:CmpOp} {r:R2} (ho:OpR X (compareOp op) r) (ha:PE X a ta) (hb:PE X b tb) (hm:behindInMarks op b=false):PT X (.Compare a [op] [b] pos) (tTest (tOp r ta tb)):=by
 intro pins s σ H Q I h
 refine wpAny_isTrue_Compare1 (thn (ha pins s σ H _ I h) fun v s1 ⟨x,H1,I1,r1,q1⟩=>thn (hb pins s1 σ H1 _ I1 q1) fun u s2 ⟨y,H2,I2,r2,q2⟩=>
  thn (ho pins s2 σ H2 x y v u _ I2 r1 r2 q2) fun c s3 ⟨z,H3,I3,r3,k,e,q3⟩=>?_) hm
 subst e
 cases r3
 exact wpAny_truthy_bool ⟨H3,I3,q3⟩
def tChain (r r':R2) (ta tb tc:TE):TE:=fun σ H Q=>ta σ H fun x H1=>tb σ H1 fun y H2=>r x y H2 fun z H3=>∃ k,z=.bl k ∧
 (if k=true then tc σ H3 fun w' H4=>r' y w' H4 Q else Q (.bl false) H3)
theorem pe_chain {op op':CmpOp} {r r':R2} (ho:OpR X (compareOp op) r) (ho':OpR X (compareOp op') r') (ha:PE X a ta) (hb:PE X b tb) (hc:PE X c tc)
  (hm:lastMarks [op,op'] [b,c]=false:=by with_unfolding_all rfl):PE X (.Compare a [op,op'] [b,c] pos) (tChain r r' ta tb tc):=by
 intro pins s σ H Q I h
 refine Compare_chain (thn (ha pins s σ H _ I h) fun v s1 ⟨x,H1,I1,r1,q1⟩=>chain_link (thn (hb pins s1 σ H1 _ I1 q1) fun u s2 ⟨y,H2,I2,r2,q2⟩=>
  thn (ho pins s2 σ H2 x y v u _ I2 r1 r2 q2) fun d s3 ⟨z,H3,I3,r3,k,e,q3⟩=>?_)) hm
 subst e
 cases r3
 refine wpAny_truthy_bool ?_
 cases k with
 | false=>exact ite_ff ⟨.bl false,H3,I3,rfl,q3⟩
 | true=>exact ite_tt (chain_last (thn (hc pins s3 σ H3 _ I3 q3) fun w' s4 ⟨z',H4,I4,r4,q4⟩=>ho' pins s4 σ H4 y z' u w' Q I4 r2 r4 q4))
theorem pt_chain {op op':CmpOp} {r r':R2} (ho:OpR X (compareOp op) r) (ho':OpR X (compareOp op') r') (ha:PE X a ta) (hb:PE X b tb) (hc:PE X c tc)
  (hm:lastMarks [op,op'] [b,c]=false:=by with_unfolding_all rfl):PT X (.Compare a [op,op'] [b,c] pos) (tTest (tChain r r' ta tb tc)):=by
 intro pins s σ H Q I h
 refine isTrue_chain (thn (ha pins s σ H _ I h) fun v s1 ⟨x,H1,I1,r1,q1⟩=>test_link (thn (hb pins s1 σ H1 _ I1 q1) fun u s2 ⟨y,H2,I2,r2,q2⟩=>
  thn (ho pins s2 σ H2 x y v u _ I2 r1 r2 q2) fun d s3 ⟨z,H3,I3,r3,k,e,q3⟩=>?_)) hm
 subst e
 cases r3
 refine wpAny_truthy_bool ?_
 cases k with
 | false=>
  obtain ⟨k',e',q'⟩:=q3
  cases e'
  exact ite_ff ⟨H3,I3,q'⟩
 | true=>
  refine ite_tt (test_last (thn (hc pins s3 σ H3 _ I3 q3) fun w' s4 ⟨z',H4,I4,r4,q4⟩=>thn (ho' pins s4 σ H4 y z' u w' _ I4 r2 r4 q4) fun d' s5 ⟨z2,H5,I5,r5,k2,e2,q5⟩=>?_))
  subst e2
  cases r5
  exact wpAny_truthy_bool ⟨H5,I5,q5⟩
theorem line63:(sizeLine:Nat) < 2 ^ 63:=by rw [sizeLine_eq];decide
theorem op_add_str:OpR X (binaryOp .Add) (fun x y H Q=>∃ i j,x=.str i/\y=.str j/\i.length+j.length<=sizeLine/\Q (.str (i++j)) H):=by
 intro pins s σ H x y v u Q I rx ry h
 obtain ⟨i,j,rfl,rfl,hz,q⟩:=h
 obtain ⟨t,rfl⟩:=rx
 obtain ⟨t',rfl⟩:=ry
 exact add_str (fun t' tk=>⟨.str (i++j),H,I.tok _,⟨_,rfl⟩,q⟩) hz
theorem vals1 {x:V} {us:List Value} (r:Vals [x] us):∃ u,us=[u]/\RelV x u:=by
 cases r with
 | cons r1 r2=>cases r2;exact ⟨_,rfl,r1⟩
theorem call_int1:CallR X (.type "int") (fun xs H Q=>(∃ i,xs=[.int i]/\Q (.int i) H)\/∃ k,xs=[.bl k]/\Q (.int (if k then 1 else 0)) H):=by
 intro pins s σ H xs us Q I r h
 rcases h with ⟨i,rfl,q⟩ | ⟨k,rfl,q⟩
 ·obtain ⟨u,rfl,t,rfl⟩:=vals1 r
  exact call_int_int ⟨.int i,H,I,⟨_,rfl⟩,q⟩
 ·obtain ⟨u,rfl,r1⟩:=vals1 r
  cases r1
  exact call_int_bool ⟨.int (if k then 1 else 0),H,I.tok _,⟨_,rfl⟩,q⟩
theorem call_str_int:CallR X (.type "str") (fun xs H Q=>∃ i,xs=[.int i]/\i.natAbs.log2 < 1920/\Q (.str (toString i)) H):=by
 intro pins s σ H xs us Q I r h
 obtain ⟨i,rfl,hz,q⟩:=h
 obtain ⟨u,rfl,t,rfl⟩:=vals1 r
 exact PySem.P.str_of_int hz ⟨.str _,H,I.tok _,⟨_,rfl⟩,q⟩
end
end L2
namespace L2
open PySem PySem.Spec PyProof.Rows
structure ObjM (h:Heap) (x dx C:Addr) (mA:Str->Option Value):Prop where
 obj:h.get? x=some (PySem.W.instObj C dx)
 ns:h.Ns1 dx mA
 ne:dx ≠ x
theorem lookIn_ns {h:Heap} {dx:Addr} {mA:Str->Option Value} (n:h.Ns1 dx mA):∃ od,h.get? dx=some od/\∀ name,PySem.W.lookIn name od=some (mA name):=by
 obtain ⟨o,es,ep,ho,hd,hk,_,hm⟩:=n
 refine ⟨o,ho,fun name=>?_⟩
 have e:=hm name
 unfold nsFind findBy at e
 rw [<-Array.find?_toList] at e
 unfold PySem.W.lookIn
 rw [hd]
 dsimp only
 split
 ·rename_i y q
  rw [q] at e
  exact congrArg some e
 ·rename_i q
  rw [q] at e
  have a:es.toList.any (·.refKey)=false:=by
   rw [List.any_eq_false]
   intro y hy
   obtain ⟨z,t,hkey⟩:=hk y (Array.mem_toList_iff.mp hy)
   simp [DictEntry.refKey,hkey]
  have a':¬ es.toList.any (·.refKey)=true:=by rw [a];exact Bool.false_ne_true
  rw [if_neg a']
  exact congrArg some e
theorem ObjM.look {h:Heap} {x dx C:Addr} {mA:Str->Option Value} (I:ObjM h x dx C mA):∃ od,PySem.W.InstAt h x (PySem.W.instObj C dx) C (some od)/\∀ name,PySem.W.lookIn name od=some (mA name):=
 let ⟨od,ho,hl⟩:=lookIn_ns I.ns
 ⟨od,⟨I.obj,rfl,rfl,ho⟩,hl⟩
section
variable {prog:Program} {w:World} {A:Around} {E:Value->Shared->Prop} {s:Shared} {K:PySem.W.Frag} {x dx C f:Addr} {mA:Str->Option Value} {name:Str} {v:Value}
end
section
variable {P:Program} {w:World} {H H':Hp} {h h':Heap} {a C dx:Addr} {fs fs':List (Str × V)}
theorem ins_get (hok:HOk P w H h) (e:H a=some (.ins C dx fs)):∃ mA,ObjM h a dx C mA/\(∀ f,RelO (fs.lookup f) (mA f))/\PySem.Within mA (fs.map (·.1))/\fs.length<=1000/\H dx=some (.own a):=by
 obtain ⟨d,z,ne,ob,mA,n,r,q⟩:=(show ObjOk P w H h a (.ins C dx fs) from hok a _ e)
 exact ⟨mA,⟨ob,n,ne⟩,r,q,z,d⟩
end
structure Cls (K:PySem.W.Frag) (C:Addr):Prop where
 pg:PySem.W.plainGet K C Str.empty=true
 hd:PySem.W.hasDictIn K C=true
 po:PySem.W.plainOver K C=true
 sa:PySem.W.findIn K (.ref C) "__setattr__" = some (some (.builtin "object.__setattr__"))
theorem Cls.get {K:PySem.W.Frag} {C:Addr} (c:Cls K C) (f:Str):PySem.W.plainGet K C f=true:=c.pg
section
variable {X:Cx} {pins:List (Addr × Obj)} {σ:St} {H:Hp} {s:Shared} {a C dx:Addr} {fs:List (Str × V)} {f:Str} {v:V} {A:Around} {E:Value->Shared->Prop}
end
section
variable {X:Cx} {o e value:Expr} {f:Str} {pos pos' tpos:Pos} {ta tv:TE}
end
section
variable {X:Cx} {pins:List (Addr × Obj)} {σ:St} {H:Hp} {s:Shared} {A:Around} {E:Value->Shared->Prop} {Q:Value->Shared->Prop} {c:Value} {b:Bool}
inductive TyOf (K:PySem.W.Frag) (H:Hp):V->Value->Prop where
 | non:TyOf K H .non (.type "NoneType")
 | bl (x:Bool):TyOf K H (.bl x) (.type "bool")
 | int (i:Int):TyOf K H (.int i) (.type "int")
 | str (x:Str):TyOf K H (.str x) (.type "str")
 | flt (x:UInt64):TyOf K H (.flt x) (.type "float")
 | lst {a:Addr} {xs:List V} (e:H a=some (.lst xs)):TyOf K H (.ref a) (.type "list")
 | frz {a:Addr} {o:Obj} {xs:List V} (e:H a=some (.frz o (.lst xs))):TyOf K H (.ref a) (.type "list")
 | tup {a:Addr} {xs:List V} (e:H a=some (.tup xs)):TyOf K H (.ref a) (.type "tuple")
 | dK {a:Addr} {kvs:List (Key × V)} (e:H a=some (.dK kvs)):TyOf K H (.ref a) (.type "dict")
 | dT {a:Addr} {kvs:List (List Key × V)} (e:H a=some (.dT kvs)):TyOf K H (.ref a) (.type "dict")
 | ins {a C dx:Addr} {fs:List (Str × V)} (e:H a=some (.ins C dx fs)) (cl:Cls K C) (ha:PySem.W.findIn K (.ref C) "__class__" = some (some (.builtin "object.__class__")))
   (hn:PySem.W.specialIn K (.builtin "object.__class__") "__get__" = some (some (.builtin "getset_descriptor.__get__"))) (htk:PySem.W.takesIn K (.builtin "object.__class__")=some true)
   (hm:PySem.W.mroIn K C (.type "object")=some true):TyOf K H (.ref a) (.ref C)
theorem isinst_ok {x:V} {u t:Value} (I:Inv X pins σ H s) (rx:RelV x u) (ty:TyOf X.K H x t) (e:PySem.W.kitOne X.K t c=some b) (h:∀ tk,Q (.bool b) { s with toks:=tk }) :
  wpAny (model X.prog X.w) A (call (.builtin "isinstance") [u,c]) Q E s:=by
 cases ty with
 | non=>cases (show u=Value.none from rx);exact PySem.W.kia_one PySem.W.kitx_none I.kIn True.intro e (fun z=>nomatch z) h
 | bl y=>cases (show u=Value.bool y from rx);exact PySem.W.kia_one PySem.W.kitx_bool I.kIn True.intro e (fun z=>nomatch z) h
 | int i=>obtain ⟨t,q⟩:=(show ∃ t,u=Value.int i t from rx);cases q;exact PySem.W.kia_one PySem.W.kitx_int I.kIn True.intro e (fun z=>nomatch z) h
 | str y=>obtain ⟨t,q⟩:=(show ∃ t,u=Value.str y t from rx);cases q;exact PySem.W.kia_one PySem.W.kitx_str I.kIn True.intro e (fun z=>nomatch z) h
 | flt y=>obtain ⟨t,q⟩:=(show ∃ t,u=Value.float y t from rx);cases q;exact PySem.W.kia_one PySem.W.kitx_float I.kIn True.intro e (fun z=>nomatch z) h
 | @lst a xs ea=>
  cases (show u=Value.ref a from rx)
  obtain ⟨_,_,n,_,h1⟩:=(show ObjOk X.prog X.w H s.heap a (.lst xs) from I.hok a _ ea)
  exact PySem.W.kia_one PySem.W.kitx_list I.kIn ⟨_,h1,rfl⟩ e (fun z=>nomatch z) h
 | @frz a ob xs ea=>
  cases (show u=Value.ref a from rx)
  obtain ⟨_,_,_,n,_,h1⟩:=(show ObjOk X.prog X.w H s.heap a (.frz ob (.lst xs)) from I.hok a _ ea)
  exact PySem.W.kia_one PySem.W.kitx_list I.kIn ⟨_,h1,rfl⟩ e (fun z=>nomatch z) h
 | @tup a xs ea=>
  cases (show u=Value.ref a from rx)
  obtain ⟨_,_,_,p⟩:=(show ObjOk X.prog X.w H s.heap a (.tup xs) from I.hok a _ ea)
  obtain ⟨o,h1,h2,_⟩:=p
  exact PySem.W.kia_one PySem.W.kitx_tuple I.kIn ⟨o,h1,h2⟩ e (fun z=>nomatch z) h
 | @dK a kvs ea=>
  cases (show u=Value.ref a from rx)
  obtain ⟨_,_,vs,_,p⟩:=(show ObjOk X.prog X.w H s.heap a (.dK kvs) from I.hok a _ ea)
  obtain ⟨o,es,ep,h1,h2,_⟩:=p
  exact PySem.W.kia_one PySem.W.kitx_dict I.kIn ⟨o,h1,h2.1⟩ e (fun z=>nomatch z) h
 | @dT a kvs ea=>exact False.elim (show ObjOk X.prog X.w H s.heap a (.dT kvs) from I.hok a _ ea)
 | @ins a C dx fs ea cl ha hn htk hm=>
  cases (show u=Value.ref a from rx)
  obtain ⟨mA,O,_⟩:=ins_get I.hok ea
  obtain ⟨od,J,_⟩:=O.look
  exact PySem.W.kia_one (PySem.W.kitx_own (cl.get _) cl.hd ha hn htk hm) I.kIn J e (fun z=>nomatch z) h
end
end L2
namespace L2
open PySem PySem.Spec PyProof.Rows
structure Room (k:Nat) (A:Around):Prop where
 hd:A.handled=none
 dp:A.depth+3 * k+5 < recursionLimit
 un:A.units+16 * k+200 < cLine
theorem Room.mono {j k:Nat} {A:Around} (r:Room k A) (h:j<=k):Room j A:=⟨r.hd,by have:=r.dp;omega,by have:=r.un;omega⟩
theorem Room.deeper {k:Nat} {A:Around} (r:Room (k+1) A) (env:Env):Room k (A.deeper env):=
 ⟨r.hd,by have:=r.dp;show A.depth+1+3 * k+5 < _;omega,by have:=r.un;show A.units+3+16 * k+200 < _;omega⟩
theorem Room.depth {k:Nat} {A:Around} (r:Room k A):A.depth < recursionLimit:=by have:=r.dp;omega
theorem Room.units {k:Nat} {A:Around} (r:Room k A):A.units+64 < cLine:=by have:=r.un;omega
def tNil:TA:=fun _ H Q=>Q [] H
def tCons (ta:TE) (tr:TA):TA:=fun σ H Q=>ta σ H fun x H1=>tr σ H1 fun xs H2=>Q (x :: xs) H2
section
variable {X:Cx} {e:Expr} {es:List Expr} {te:TE} {t:TA} {pos:Pos}
theorem pa_nil:PA X [] tNil:=fun _ _ _ _ H Q I h=>Calls.spliced_nil ⟨[],H,I,.nil,h⟩
theorem pa_cons (ha:PE X e te) (hr:PA X es t) (hs:starEach (e :: es) X.env=(false,eval e X.env) :: starEach es X.env:=by rfl):PA X (e :: es) (tCons te t):=by
 intro pos pins s σ H Q I h
 rw [hs]
 show wpAny _ _ (spliced ((false,eval e X.env) :: backTo pos (starEach es X.env))) _ _ s
 refine Calls.spliced_cons (thn (ha pins s σ H _ I h) fun u s1 ⟨x,H1,I1,r1,q1⟩=>?_)
 exact thn (hr pos pins s1 σ H1 _ I1 q1) fun us s2 ⟨xs,H2,I2,r2,q2⟩=>⟨x :: xs,H2,I2,.cons r1 r2,q2⟩
def tTup (t:TA):TE:=fun σ H Q=>t σ H fun xs H1=>xs.length<=sizeLine/\∀ p,H1 p=none->Q (.ref p) (upd H1 p (.tup xs))
def tLst (t:TA):TE:=fun σ H Q=>t σ H fun xs H1=>xs.length<=sizeLine/\∀ p,H1 p=none->Q (.ref p) (upd H1 p (.lst xs))
theorem pe_tup {x1} (h:PA X es t):PE X (.Tuple es x1 pos) (tTup t):=by
 intro pins s σ H Q I hq
 refine wpAny_Tuple_spliced (thn (h pos pins s σ H _ I hq) fun us s1 ⟨xs,H1,I1,r,z,q⟩=>⟨by rw [<-r.length];exact z,?_⟩)
 have hf:H1 s1.heap.objs.size=none:=I1.hok.fresh (Nat.le_refl _)
 refine ⟨.ref s1.heap.objs.size,upd H1 s1.heap.objs.size (.tup xs),I1.laid (t':=s1.toks) (fun b u e=>Heap.get?_push_of_some _ e) (Nat.le_refl _) ?_,rfl,q _ hf⟩
 exact ⟨z,us,r,⟨_,Heap.get?_push_size _ rfl,rfl,_,rfl⟩⟩
theorem pe_lst (h:PA X es t):PE X (.List es pos) (tLst t):=by
 intro pins s σ H Q I hq
 refine wpAny_List_spliced (thn (h pos pins s σ H _ I hq) fun us s1 ⟨xs,H1,I1,r,z,q⟩=>⟨by rw [<-r.length];exact z,?_⟩)
 have hf:H1 s1.heap.objs.size=none:=I1.hok.fresh (Nat.le_refl _)
 refine ⟨.ref s1.heap.objs.size,upd H1 s1.heap.objs.size (.lst xs),I1.laid (t':=s1.toks) (fun b u e=>Heap.get?_push_of_some _ e) (Nat.le_refl _) ?_,rfl,q _ hf⟩
 exact ⟨z,us,0,r,Heap.get?_push_size _ rfl⟩
end
abbrev Sp:=List V->Hp->VK->XK->Prop
abbrev CXT:=List Env->Hp->Shared->XK->Value->Shared->Prop
structure Env0 (P:Program) (w:World) (K:PySem.W.Frag) (mg:Str->Option Value) (base:Heap) (A:Around) (outer:List Env) (s:Shared) (H:Hp):Prop where
 frames:A.frames=some outer
 mod:Mod K mg base
 bs:∀ b o,base.get? b=some o->s.heap.get? b=some o/\H b=none
 bsz:base.objs.size<=s.heap.objs.size
 funs:s.heap.FunFrames base outer
 frf:∀ b ∈ frs outer,H b=none
 hok:HOk P w H s.heap
 bare:AllBare s.gens
def CE (outer:List Env) (P:Program) (w:World) (H:Hp) (s:Shared) (Q:VK) (u:Value) (s':Shared):Prop:=
 ∃ v H',s'.os=s.os/\AllBare s'.gens/\Un (frs outer) [] H H' s.heap s'.heap/\HOk P w H' s'.heap/\RelV v u/\Q v H'
def CR (CX:CXT) (outer:List Env) (P:Program) (w:World) (H:Hp) (s:Shared) (Q:VK) (E:XK) (r:Result) (s':Shared):Prop:=
 match r with
 | .ok (.ret u)=>CE outer P w H s Q u s'
 | .ok _=>False
 | .error e=>CX outer H s E e s'
structure FnOk (P:Program) (w:World) (K:PySem.W.Frag) (mg:Str->Option Value) (base:Heap) (CX:CXT) (k:Nat) (f:Addr) (fd:FuncData) (ps:List Str) (sp:Sp):Prop where
 len:∀ vs H Q E,sp vs H Q E->vs.length=ps.length
 run:∀ (A:Around) (outer:List Env) (s:Shared) (H:Hp) (args:Args) (us:List Value) (vs:List V) (Q:VK) (E:XK),Room k A->Env0 P w K mg base A outer s H->BindsTo s fd args (ps.zip us)->Vals vs us->sp vs H Q E →
  codeAny (model P w) A (.call (.ref f) args) (CR CX outer P w H s Q E) s
theorem FnOk.mono {P:Program} {w:World} {K:PySem.W.Frag} {mg:Str->Option Value} {base:Heap} {CX:CXT} {j k:Nat} {f:Addr} {fd:FuncData} {ps:List Str} {sp:Sp} (F:FnOk P w K mg base CX j f fd ps sp) (h:j<=k) :
  FnOk P w K mg base CX k f fd ps sp:=⟨F.len,fun A outer s H args us vs Q E hr=>F.run A outer s H args us vs Q E (hr.mono h)⟩
section
variable {X:Cx} {pins:List (Addr × Obj)} {σ:St} {H:Hp} {s s':Shared}
theorem Inv.env0 (I:Inv X pins σ H s):Env0 X.prog X.w X.K X.mg X.base X.A X.stack s H:=
 ⟨I.ok.frames,I.ok.mod,I.bs,Nat.le_trans I.ok.bsz I.sz,I.stack,I.stkFree,I.hok,I.bare⟩
theorem Inv.after {Q:VK} {u:Value} (I:Inv X pins σ H s) (h:CE X.stack X.prog X.w H s Q u s'):EP X pins σ Q u s':=by
 obtain ⟨v,H',os,bare,un,hok,r,q⟩:=h
 obtain ⟨hh,g,d,t,os'⟩:=s'
 obtain rfl:os'=s.os:=os
 exact ⟨v,H',I.call (h':=hh) (g':=g) (d':=d) (t':=t) (ch:=[]) un hok bare (fun b z=>absurd z (by simp)),r,q⟩
end
def tCall (sp:Sp) (dvs:List V) (E:XK) (t:TA):TE:=fun σ H Q=>t σ H fun vs H1=>sp (vs++dvs) H1 Q E
def Binds (K:PySem.W.Frag) (fd:FuncData) (ps:List Str) (ds:List Value):Prop:=
 ∀ (s:Shared) (us:List Value),K.In s.heap->(us++ds).length=ps.length->BindsTo s fd ⟨us,[]⟩ (ps.zip (us++ds))
theorem Binds.all {K:PySem.W.Frag} {fd:FuncData} {ps:List Str} (h:∀ us:List Value,us.length=ps.length->bindArgs fd ⟨us,[]⟩=pure (ps.zip us)):Binds K fd ps []:=fun s us _ hl=>by
 rw [List.append_nil] at hl ⊢
 exact .of_eq (h us hl)
def Passes (CX:CXT) (X:Cx) (E:XK):Prop:=∀ (pins:List (Addr × Obj)) (σ:St) (H:Hp) (s:Shared) (e:Value) (s':Shared),Inv X pins σ H s->CX X.stack H s E e s'->X.xe e s'
section
variable {X:Cx} {CX:CXT} {k:Nat} {f C:Addr} {fd:FuncData} {ps:List Str} {sp:Sp} {dvs:List V} {ds:List Value} {E:XK} {x m:Str} {p pos apos:Pos} {e o:Expr} {es:List Expr} {ta:TE} {t:TA}
theorem run_fn {pins:List (Addr × Obj)} {σ:St} {H:Hp} {s:Shared} {Q:VK} {us:List Value} {vs:List V} (F:FnOk X.prog X.w X.K X.mg X.base CX k f fd ps sp) (hr:Room k X.A) (hb:Binds X.K fd ps ds) (hd:Vals dvs ds) (hx:Passes CX X E)
  (I:Inv X pins σ H s) (r:Vals vs us) (h:sp (vs++dvs) H Q E):wpAny (model X.prog X.w) X.A (call (.ref f) us) (EP X pins σ Q) X.xe s:=by
 have r2:Vals (vs++dvs) (us++ds):=r.append hd
 have hl:(us++ds).length=ps.length:=by rw [<-r2.length];exact F.len _ _ _ _ h
 refine wpAny_call (codeAny_mono (F.run X.A X.stack s H ⟨us,[]⟩ (us++ds) (vs++dvs) Q E hr I.env0 (hb s us I.kIn hl) r2 h) fun r s' hq=>?_)
 cases r with
 | error e=>exact hx pins σ H s e s' I hq
 | ok fl=>
  cases fl with
  | ret u=>exact I.after hq
  | next=>exact False.elim hq
  | brk=>exact False.elim hq
  | cont=>exact False.elim hq
theorem pe_call (F:FnOk X.prog X.w X.K X.mg X.base CX k f fd ps sp) (hr:Room k X.A) (hg:Gl X x) (hm:X.mg x=some (.ref f)) (hk:PySem.W.keepIn X.K (.ref f)=true) (hb:Binds X.K fd ps ds) (hd:Vals dvs ds) (hx:Passes CX X E)
  (ha:PA X (e :: es) t) (hdb:(x == ("__debug__" : Str))=false:=by decide) (he:starEach (e :: es) X.env=(false,eval e X.env) :: starEach es X.env:=by rfl) (hpl:(backTo pos (starEach es X.env)).any (·.1)=false:=by rfl) :
  PE X (.Call (.Name x p) (e :: es) [] pos) (tCall sp dvs E t):=by
 intro pins s σ H Q I h
 refine wpAny_Call_Name_kw (ld_glob I hg hm ?_ hdb)
 refine PySem.W.callWith_K (h₀:=X.base) I.ok.mod.kin hk (thn (ha pos pins s σ H _ I h) fun us s1 ⟨vs,H1,I1,r,q⟩=>⟨I1.kIn,?_⟩) he hpl
 exact run_fn F hr hb hd hx I1 r q
end
section
variable {X:Cx} {CX:CXT} {k:Nat} {f C:Addr} {fd:FuncData} {ps ks:List Str} {sp:Sp} {E:XK} {x m:Str} {p pos apos kpos:Pos} {e o:Expr} {es:List Expr} {kws:List Keyword} {te ta:TE} {t tk:TA} {nm:Option Str}
variable {g:List Value->List Value->List Value} {gV:List V->List V->List V}
end
structure FnScope (N P:List Str) (sc:Scope):Prop where
 kind:sc.kind=.function
 co:sc.isCoroutine=false
 gen:sc.isGenerator=false
 nd:N.Nodup
 pre:N.take P.length=P
 par:∀ x ∈ P,sc.names.lookup x=some .local\/sc.names.lookup x=some .cell
 nofree:∀ y ∈ sc.names,y.2 ≠ .free
theorem bindL_out {kindOf:Str->Option NameKind} {x:Str}:∀ {binds:List (Str × Value)} {m:Str->Option Value},(∀ v,(x,v) ∉ binds)->bindL kindOf binds m x=m x
 | [],_,_=>rfl
 | (n,v) :: r,m,h=>by
  unfold bindL
  rw [bindL_out fun w hw=>h w (List.mem_cons_of_mem _ hw)]
  split
  ·have:x ≠ n:=by rintro rfl;exact h v List.mem_cons_self
   simp [this]
  ·rfl
theorem bindC_out {kindOf:Str->Option NameKind} {x:Str}:∀ {binds:List (Str × Value)} {m:Str->Option Value},(∀ v,(x,v) ∉ binds)->bindC kindOf binds m x=m x
 | [],_,_=>rfl
 | (n,v) :: r,m,h=>by
  unfold bindC
  rw [bindC_out fun w hw=>h w (List.mem_cons_of_mem _ hw)]
  split
  ·rfl
  ·have:x ≠ n:=by rintro rfl;exact h v List.mem_cons_self
   simp [this]
theorem bindL_get {kindOf:Str->Option NameKind} {x:Str} {v:Value}:∀ {P:List Str} {vs:List Value} {i:Nat} {m:Str->Option Value},P.Nodup->P[i]?=some x->vs[i]?=some v->kindOf x=some .local →
  bindL kindOf (P.zip vs) m x=some v
 | [],_,_,_,_,h,_,_=>by simp at h
 | _ :: _,[],_,_,_,_,h,_=>by simp at h
 | p :: P,w :: vs,0,m,nd,h1,h2,hk=>by
  simp at h1 h2;subst h1;subst h2
  show bindL kindOf ((p,w) :: P.zip vs) m p=_
  unfold bindL
  rw [bindL_out fun v hv=>(List.nodup_cons.mp nd).1 (List.of_mem_zip hv).1,if_pos hk]
  simp
 | p :: P,w :: vs,i+1,m,nd,h1,h2,hk=>by
  show bindL kindOf ((p,w) :: P.zip vs) m x=_
  unfold bindL
  exact bindL_get (i:=i) (List.nodup_cons.mp nd).2 (by simpa using h1) (by simpa using h2) hk
theorem bindC_get {kindOf:Str->Option NameKind} {x:Str} {v:Value}:∀ {P:List Str} {vs:List Value} {i:Nat} {m:Str->Option Value},P.Nodup->P[i]?=some x->vs[i]?=some v->kindOf x ≠ some .local →
  bindC kindOf (P.zip vs) m x=some v
 | [],_,_,_,_,h,_,_=>by simp at h
 | _ :: _,[],_,_,_,_,h,_=>by simp at h
 | p :: P,w :: vs,0,m,nd,h1,h2,hk=>by
  simp at h1 h2;subst h1;subst h2
  show bindC kindOf ((p,w) :: P.zip vs) m p=_
  unfold bindC
  rw [bindC_out fun v hv=>(List.nodup_cons.mp nd).1 (List.of_mem_zip hv).1,if_neg hk]
  simp
 | p :: P,w :: vs,i+1,m,nd,h1,h2,hk=>by
  show bindC kindOf ((p,w) :: P.zip vs) m x=_
  unfold bindC
  exact bindC_get (i:=i) (List.nodup_cons.mp nd).2 (by simpa using h1) (by simpa using h2) hk
def start (N:List Str) (vs:List V):St:=vs.map some++List.replicate (N.length - vs.length) none
def cxOf (CX:CXT) (P:Program) (w:World) (K:PySem.W.Frag) (mg:Str->Option Value) (base:Heap) (N:List Str) (qual:Str) (scope:Scope) (f:Addr) (cd:Value) (A:Around) (outer:List Env) (s:Shared) (H:Hp) (E:XK):Cx where
 prog:=P
 w:=w
 K:=K
 mg:=mg
 base:=base
 A:=A.deeper (envOfC qual scope s.heap.objs.size f cd)
 N:=N
 s₀:=s
 H₀:=H
 env:=envOfC qual scope s.heap.objs.size f cd
 outer:=outer
 stack:=envOfC qual scope s.heap.objs.size f cd :: outer
 ex:=[]
 calm:=true
 fn:=fun _=>true
 pn:=[]
 xe:=fun e s'=>wpAny (model P w) (A.deeper (envOfC qual scope s.heap.objs.size f cd)) (leaving (envOfC qual scope s.heap.objs.size f cd) e) (fun _ s''=>CX outer H s E e s'') (fun e' s''=>CX outer H s E e' s'') s'
theorem cell_has {sc:Scope} {n:Nat} {x:Str} (h:sc.names.lookup x=some .cell):∃ c,(cellsFrom n sc.names []).lookup x=some c:=by
 have q:=PySem.W.cellsFrom_some sc.names n [] (.inl h)
 exact Option.isSome_iff_exists.mp q
theorem inv_start {CX:CXT} {P:Program} {w:World} {K:PySem.W.Frag} {mg:Str->Option Value} {base:Heap} {N ps:List Str} {qual:Str} {scope:Scope} {f:Addr} {cd:Value} {A:Around} {outer:List Env} {s s1:Shared} {H:Hp} {E:XK} {us:List Value} {vs:List V}
  (S:FnScope N ps scope) (hd:A.handled=none) (e0:Env0 P w K mg base A outer s H) (hl:vs.length=ps.length) (r:Vals vs us)
  (x:InCallC s s.heap.objs.size (bindL (envOfC qual scope s.heap.objs.size f cd).kindOf (ps.zip us) fun _=>none) (cellsFrom (s.heap.objs.size+1) scope.names []) (bindC (envOfC qual scope s.heap.objs.size f cd).kindOf (ps.zip us) fun _=>none) s1) :
  Inv (cxOf CX P w K mg base N qual scope f cd A outer s H E) [] (start N vs) H s1:=by
 have hpl:ps.length<=N.length:=by have:=congrArg List.length S.pre;rw [List.length_take] at this;omega
 obtain ⟨h1,tk,rfl,hk⟩:=x.done
 have noA:∀ b:Addr,b ∉ (cxOf CX P w K mg base N qual scope f cd A outer s H E).ex:=fun b z=>absurd (show b ∈ ([]:List Addr) from z) (by simp)
 refine ⟨⟨e0.mod,S.kind,rfl,rfl,Nat.le_refl _,fun y z c h1 h2=>?_,fun y hy=>?_,fun y c _ h=>?_,fun _=>hd,Around.frames_deeper e0.frames,.inr ⟨rfl,rfl⟩,fun b z=>absurd z (noA b),e0.bs,e0.bsz,fun b _ _=>noA b,fun b z=>absurd z (noA b),e0.funs,e0.frf⟩,
  rfl,e0.bare,Un.kept hk,⟨_,x.toInCall.ns,fun i y v h1 h2 h3=>?_⟩,fun y c h=>⟨_,x.cell y c h⟩,e0.hok.fresh (Nat.le_refl _),fun y c h=>?_,fun p hp=>absurd (show p ∈ ([]:List (Addr × Obj)) from hp) (by simp),e0.hok.kept hk,?_⟩
 ·exact name_of_addr x.apart (PySem.mem_of_lookup h1) (PySem.mem_of_lookup h2)
 ·have hy:scope.names.lookup y=some .cell\/scope.names.lookup y=some .free:=hy
  rcases hy with hy | hy
  ·exact cell_has hy
  ·exact absurd rfl (S.nofree _ (PySem.mem_of_lookup hy))
 ·exact Nat.le_of_lt (x.above y c (PySem.mem_of_lookup h))
 ·have hi:i < vs.length:=by
   unfold start at h2
   by_cases hi:i < vs.length
   ·exact hi
   ·rw [List.getElem?_append_right (by simpa using hi)] at h2
    rw [List.getElem?_replicate] at h2
    split at h2 <;> cases h2
  have ha:vs[i]?=some v:=by
   unfold start at h2
   rw [List.getElem?_append_left (by simpa using hi),List.getElem?_map] at h2
   cases e:vs[i]? with
   | none=>rw [e] at h2;cases h2
   | some a=>rw [e] at h2;cases h2;rfl
  obtain ⟨u,hu,rv⟩:=r.get ha
  have hp:ps[i]?=some y:=by
   rw [<-S.pre,List.getElem?_take_of_lt (by omega)];exact h1
  have ndP:ps.Nodup:=by rw [<-S.pre];exact S.nd.sublist (List.take_sublist _ _)
  refine ⟨u,rv,?_⟩
  rcases S.par y (List.mem_of_getElem? hp) with k | k
  ·exact .inl ⟨k,bindL_get ndP hp hu k⟩
  ·obtain ⟨c,e⟩:=cell_has (n:=s.heap.objs.size+1) k
   refine .inr ⟨.inl k,c,e,?_⟩
   have q:=x.cell y c e
   rw [bindC_get ndP hp hu (by show scope.names.lookup y ≠ _;rw [k];decide)] at q
   exact q
 ·exact e0.hok.fresh (Nat.le_of_lt (x.above y c (PySem.mem_of_lookup h)))
 ·unfold start
  show _=N.length
  rw [List.length_append,List.length_map,List.length_replicate]
  omega
theorem fn_of {CX:CXT} {P:Program} {w:World} {K:PySem.W.Frag} {mg:Str->Option Value} {base:Heap} {k:Nat} {f:Addr} {name qual:Str} {params:Arguments} {body:List Stmt} {scope:Scope} {dV kV doc pm cdv ct oc:Value} {an od:Option Addr}
  {osl:Array (Option Value)} {N ps:List Str} {sp:Sp} (lk:K.lookup f=some ⟨oc,od,.func (PySem.W.fnOf name qual params body scope dV kV doc pm an cdv ct),osl⟩) (hcd:PySem.W.codeIn K cdv qual=true) (S:FnScope N ps scope)
  (len:∀ vs H Q E,sp vs H Q E->vs.length=ps.length)
  (hbody:∀ (A:Around) (outer:List Env) (s:Shared) (H:Hp) (vs:List V) (Q:VK) (E:XK),Room k (A.deeper (envOfC qual scope s.heap.objs.size f cdv))->sp vs H Q E →
   ∃ t,PSs (cxOf CX P w K mg base N qual scope f cdv A outer s H E) body t/\t { nx:=fun _ H'=>Q .non H',rt:=Q } (start N vs) H) :
  FnOk P w K mg base CX (k+1) f (PySem.W.fnOf name qual params body scope dV kV doc pm an cdv ct) ps sp:=by
 refine ⟨len,fun A outer s H args us vs Q E hr e0 hb r hsp=>?_⟩
 have hl:=len _ _ _ _ hsp
 have KX:K.In s.heap:=e0.mod.kin.keeps fun b o e=>(e0.bs b o e).1
 have lim:s.heap.NoLimit:=e0.mod.nolimit.keeps fun b o e=>(e0.bs b o e).1
 have hkind:∀ y ∈ ps.zip us,scope.names.lookup y.1=some .local\/(scope.names.lookup y.1=some .cell/\((cellsFrom (s.heap.objs.size+1) scope.names []).lookup y.1).isSome=true):=fun ⟨n,v⟩ hy=>by
  rcases S.par n (List.of_mem_zip hy).1 with q | q
  ·exact .inl q
  ·exact .inr ⟨q,PySem.W.cellsFrom_some _ _ _ (.inl q)⟩
 refine codeAny_call_function hr.depth (KX _ _ lk) rfl S.co S.gen rfl (PySem.W.codeRec_of KX hcd) (hb _ _ _ _ ?_)
 refine wpAny_newFunctionEnv_cells S.kind hkind fun env he s1 x=>?_
 subst he
 refine ⟨lim.keeps x.toInCall.keep,codeAny_func ?_⟩
 obtain ⟨t,ht,hq⟩:=hbody A outer s H vs Q E (hr.deeper _) hsp
 have I:Inv (cxOf CX P w K mg base N qual scope f cdv A outer s H E) [] (start N vs) H s1:=inv_start S hr.hd e0 hl r x
 refine wpAny_mono (ht [] s1 (start N vs) H _ I hq) (fun fl s' hs=>?_) fun e s' hs=>hs
 have fin:∀ {σ':St} {H':Hp} {v:V} {u:Value},Inv (cxOf CX P w K mg base N qual scope f cdv A outer s H E) [] σ' H' s'->RelV v u->Q v H'->CE outer P w H s Q u s':=
  fun {σ' H' v u} J rv q=>⟨v,H',J.os,J.bare,J.base,J.hok,rv,q⟩
 cases fl with
 | ret u=>
  obtain ⟨v,σ',H',J,rv,q⟩:=hs
  exact fin J rv q
 | next=>
  obtain ⟨σ',H',J,q⟩:=hs
  exact fin (v:=V.non) (u:=Value.none) J rfl q
 | brk=>
  obtain ⟨_,_,_,q⟩:=hs
  exact False.elim q
 | cont=>
  obtain ⟨_,_,_,q⟩:=hs
  exact False.elim q
end L2
namespace L2
open PySem PySem.Spec PyProof.Rows
section
variable {X:Cx} {x:Str} {p pos:Pos} {e:Expr} {es:List Expr} {t:TA} {id T:String} {r:List V->Hp->VK->Prop}
def tCB (r:List V->Hp->VK->Prop) (t:TA):TE:=fun σ H Q=>t σ H fun vs H1=>r vs H1 Q
theorem pe_callB (hc:CallR X (.builtin id) r) (hg:Gl X x) (hm:X.mg x=none) (hv:bootBuiltins x=some (.builtin id)) (ha:PA X (e :: es) t) (hn:x ≠ "__name__" := by decide) (hdb:(x == ("__debug__" : Str))=false:=by decide)
  (he:starEach (e :: es) X.env=(false,eval e X.env) :: starEach es X.env:=by rfl) (hpl:(backTo pos (starEach es X.env)).any (·.1)=false:=by rfl):PE X (.Call (.Name x p) (e :: es) [] pos) (tCB r t):=by
 intro pins s σ H Q I h
 refine wpAny_Call_Name_kw (ld_blt I hg hm hv ?_ hn hdb)
 exact PyProof.Rows.callWith_builtin1 (thn (ha pos pins s σ H _ I h) fun us s1 ⟨vs,H1,I1,r1,q1⟩=>hc pins s1 σ H1 vs us Q I1 r1 q1) he hpl
theorem pe_callTy (hc:CallR X (.type T) r) (hg:Gl X x) (hm:X.mg x=none) (hv:bootBuiltins x=some (.type T)) (ha:PA X (e :: es) t) (hn:x ≠ "__name__" := by decide) (hdb:(x == ("__debug__" : Str))=false:=by decide)
  (he:starEach (e :: es) X.env=(false,eval e X.env) :: starEach es X.env:=by rfl) (hpl:(backTo pos (starEach es X.env)).any (·.1)=false:=by rfl):PE X (.Call (.Name x p) (e :: es) [] pos) (tCB r t):=by
 intro pins s σ H Q I h
 refine wpAny_Call_Name_kw (ld_blt I hg hm hv ?_ hn hdb)
 exact PyProof.Rows.callWith_type1 (thn (ha pos pins s σ H _ I h) fun us s1 ⟨vs,H1,I1,r1,q1⟩=>hc pins s1 σ H1 vs us Q I1 r1 q1) he hpl
end
end L2
namespace HT
open PySem PyProof.Rows
section
open PySem.SeqAt
open PySem.AutoSeq1 (wpAny_loadPart')
open PySem.MeetsSeq PySem.MeetsSeq2 PySem.MeetsSeq3
end
section
variable {prog:Program} {w:World} {A:Around} {E:Value->Shared->Prop} {s:Shared}
theorem cat_tup {t b:Addr} {vs ws:List Value} {Q:Value->Shared->Prop} (ht:IsTup s.heap t vs.toArray) (hb:IsTup s.heap b ws.toArray) (hv:vs ≠ [])
  (h1:ws=[]->Q (.ref t) s) (h2:ws ≠ []->Q (.ref s.heap.objs.size) { s with heap:=s.heap.push { cls:=.type "tuple",data:=.seq (vs++ws).toArray } })
  (hsz:vs.length+ws.length<=sizeLine):wpAny (model prog w) A (binaryOp .Add (.ref t) (.ref b)) Q E s:=by
 obtain ⟨⟨cls,dd,data,sl⟩,ho,hc,n,hd⟩:=id ht
 obtain ⟨⟨cls2,dd2,data2,sl2⟩,ho2,hc2,n2,hd2⟩:=id hb
 simp only at hc hd hc2 hd2
 subst hc hd hc2 hd2
 have e:vs.toArray++ws.toArray=(vs++ws).toArray:=by simp
 by_cases hw:ws=[]
 ·exact concat_meets ⟨_,ho,rfl⟩ ⟨_,ho2,rfl⟩ noFill_tuple_add seq_tuple_add PySem.F.slot_tuple_add PySem.F.entry_tuple_add (PySem.F.args_tuple_add_2 _ _)
   (tuple_addW1 t b vs.toArray ws.toArray n n2 dd dd2 sl sl2 (by simpa using hv) (by simp [hw])) ⟨ho,ho2,h1 hw⟩
 ·refine concat_meets ⟨_,ho,rfl⟩ ⟨_,ho2,rfl⟩ noFill_tuple_add seq_tuple_add PySem.F.slot_tuple_add PySem.F.entry_tuple_add (PySem.F.args_tuple_add_2 _ _)
   (tuple_addW2 t b vs.toArray ws.toArray n n2 dd dd2 sl sl2 (by simpa using hv) (by simpa using hw) (by rw [List.size_toArray,List.size_toArray];exact hsz)) ⟨ho,ho2,?_⟩
  rw [e]
  exact h2 hw
def sIx (n d:Nat):Option Int->Nat
 | none=>d
 | some v=>if v < 0 then (v+(n:Int)).toNat else min v.toNat n
theorem sIx_none (n d:Nat):sIx n d none=d:=rfl
theorem sIx_nat (n d k:Nat):sIx n d (some (k:Int))=min k n:=by
 show (if (k:Int) < 0 then ((k:Int)+(n:Int)).toNat else min (k:Int).toNat n)=min k n
 rw [if_neg (by omega),Int.toNat_natCast]
theorem sIx_le (n d:Nat) (hd:d<=n) (o:Option Int):sIx n d o<=n:=by
 cases o with
 | none=>exact hd
 | some v=>
  show (if v < 0 then (v+(n:Int)).toNat else min v.toNat n)<=n
  by_cases hv:v < 0
  ·rw [if_pos hv];omega
  ·rw [if_neg hv];exact Nat.min_le_right _ _
theorem clip_eq (v:Int) (n d:Nat):(if v < 0 then max (v+(n:Int)) 0 else min v (n:Int))=((sIx n d (some v):Nat):Int):=by
 show (if v < 0 then max (v+(n:Int)) 0 else min v (n:Int))=(((if v < 0 then (v+(n:Int)).toNat else min v.toNat n):Nat):Int)
 by_cases hv:v < 0
 ·simp only [if_pos hv];omega
 ·simp only [if_neg hv];omega
theorem adjust_gen (lo hi:Option Int) (n:Nat):Builtin.Slice.sliceAdjust lo hi 1 (n:Int)=(((sIx n 0 lo:Nat):Int),((sIx n n hi:Nat):Int)):=by
 have h1:¬ ((1:Int) < 0):=by omega
 unfold Builtin.Slice.sliceAdjust
 simp only [h1,if_false]
 refine Prod.ext ?_ ?_
 ·cases lo with
  | none=>rfl
  | some v=>exact clip_eq v n 0
 ·cases hi with
  | none=>rfl
  | some v=>exact clip_eq v n n
theorem places_gen (i j:Nat):Builtin.Slice.slicePlaces (i:Int) (j:Int) 1=j - i:=by
 unfold Builtin.Slice.slicePlaces
 have h1:(1:Int) > 0:=by omega
 simp only [h1,if_true,Int.ediv_one]
 split <;> omega
theorem slicePart_ {v:Value} {o:Option Int} {Q:Option Int->Shared->Prop} (p:IsPart v o) (h:Q o s):wpAny (model prog w) A (Builtin.Slice.slicePartIndex v) Q E s:=by
 cases p with
 | none=>exact slicePart_none h
 | int i t=>exact slicePart_int h
theorem sliceApplied_gen {sl:Addr} {vl vu:Value} {lo hi:Option Int} {n:Nat} {Q:Int × Int × Nat->Shared->Prop} (hs:s.heap.IsSliceOf sl vl vu .none) (pl:IsPart vl lo) (pu:IsPart vu hi)
  (h:Q (((sIx n 0 lo:Nat):Int),1,sIx n n hi - sIx n 0 lo) s):wpAny (model prog w) A (Builtin.Slice.sliceApplied (.ref sl) (pure (n:Int))) Q E s:=by
 obtain ⟨os,hos,hcs,hds⟩:=id hs
 unfold Builtin.Slice.sliceApplied Builtin.Slice.sliceFields
 refine wpAny_bind (wpAny_bind (wpAny_field hos hds (x:=vl) rfl (wpAny_bind (wpAny_field hos hds (x:=vu) rfl (wpAny_bind (wpAny_field hos hds (x:=.none) rfl (wpAny_pure ?_)))))))
 refine wpAny_bind (slicePart_none ?_)
 show wpAny _ _ (if ((1:Int) == 0)=true then _ else _) _ _ s
 rw [if_neg (by decide)]
 refine wpAny_bind (slicePart_ pl (wpAny_bind (slicePart_ pu (wpAny_bind (wpAny_pure ?_)))))
 show wpAny _ _ (match Builtin.Slice.sliceAdjust lo hi 1 (n:Int) with | (lo,hi)=>pure (lo,(1:Int),Builtin.Slice.slicePlaces lo hi 1)) _ _ s
 rw [adjust_gen lo hi n]
 show wpAny _ _ (pure (((sIx n 0 lo:Nat):Int),(1:Int),Builtin.Slice.slicePlaces ((sIx n 0 lo:Nat):Int) ((sIx n n hi:Nat):Int) 1)) _ _ s
 rw [places_gen]
 exact wpAny_pure h
theorem pick_gen (xs:Array Value) (i k:Nat):((List.range k).filterMap fun (m:Nat)=>xs[((i:Int)+(m:Int) * 1).toNat]?).toArray=((xs.toList.drop i).take k).toArray:=by
 have e:(fun (m:Nat)=>xs[((i:Int)+(m:Int) * 1).toNat]?)=fun m=>xs[i+m]?:=by
  funext m
  have:((i:Int)+(m:Int) * 1).toNat=i+m:=by omega
  rw [this]
 rw [e]
 have:=pick_run xs i k
 rw [List.filterMap_map] at this
 have e2:((fun x=>xs[x]?) ∘ fun x=>i+x)=fun m=>xs[i+m]?:=rfl
 rw [e2] at this
 rw [this]
theorem getItem_tuple_cut {t sl:Addr} {items:Array Value} {vl vu:Value} {lo hi:Option Int} {Q:Value->Shared->Prop} (ht:IsTup s.heap t items) (hs:s.heap.IsSliceOf sl vl vu .none) (pl:IsPart vl lo) (pu:IsPart vu hi)
  (hw:¬ (sIx items.size 0 lo=0/\sIx items.size items.size hi=items.size))
  (h:Q (.ref s.heap.objs.size) { s with heap:=s.heap.push { cls:=.type "tuple",data:=.seq ((items.toList.drop (sIx items.size 0 lo)).take (sIx items.size items.size hi - sIx items.size 0 lo)).toArray } })
  (hsz:items.size<=sizeLine):wpAny (model prog w) A (getItem (.ref t) (.ref sl)) Q E s:=by
 have htake:sizeOk (.seq ((items.toList.drop (sIx items.size 0 lo)).take (sIx items.size items.size hi - sIx items.size 0 lo)).toArray):=by
  show ((items.toList.drop (sIx items.size 0 lo)).take (sIx items.size items.size hi - sIx items.size 0 lo)).toArray.size<=sizeLine
  rw [List.size_toArray,List.length_take,List.length_drop,Array.length_toList]
  omega
 have hj:sIx items.size items.size hi<=items.size:=sIx_le _ _ (Nat.le_refl _) hi
 obtain ⟨os,hos,hcs,hds⟩:=id hs
 have hTs:s.TypeIs (.ref sl) "slice" := ⟨os,hos,hcs⟩
 unfold getItem
 try with_reducible refine wpAny_holding ?_
 first | refine wpAny_bind (wpAny_pure ?_) | skip
 refine wpAny_bind (wpAny_sequenceKey ht.typeIs (by decide) ?_)
 refine wpAny_bind (wpAny_callSpecial?_slot (name:=Str.ofString "__getitem__") ht.typeIs PyProof.Rows.slot_tuple_getitem
  (wpAny_call_entry PyProof.Rows.slot_tuple_getitem ht.typeIs entry_tuple_getitem ?_ (args_tuple_getitem _ _)))
 show wpAny _ _ (Builtin.Tuple.tupleItemsOf (.ref t) >>= _) _ _ s
 refine wpAny_bind (tupleItemsOf_ ht ?_)
 refine wpAny_bind (wpAny_typeOf hTs ?_)
 rw [if_pos (by decide)]
 refine wpAny_bind (sliceApplied_gen hs pl pu ?_)
 have hno:¬ ((((sIx items.size 0 lo:Nat):Int) == 0 && (1:Int) == 1 && (sIx items.size items.size hi - sIx items.size 0 lo) == items.size)=true):=by
  intro q
  rw [Bool.and_eq_true,Bool.and_eq_true] at q
  have q1:((sIx items.size 0 lo:Nat):Int)=0:=eq_of_beq q.1.1
  have q2:sIx items.size items.size hi - sIx items.size 0 lo=items.size:=eq_of_beq q.2
  exact hw ⟨by omega,by omega⟩
 show wpAny _ _ (if (((sIx items.size 0 lo:Nat):Int) == 0 && (1:Int) == 1 && (sIx items.size items.size hi - sIx items.size 0 lo) == items.size)=true then _ else _) _ _ s
 rw [if_neg hno,pick_gen]
 first
  | exact wpAny_bind (m:=Builtin.Tuple.tupleExact _) (wpAny_newObj_type (wpAny_pure ⟨_,rfl,wpAny_pure h⟩) htake)
  | exact wpAny_bind (m:=Builtin.Tuple.tupleExact _) (wpAny_newObj_type (wpAny_bind (wpAny_pure (wpAny_pure ⟨_,rfl,wpAny_pure h⟩))) htake)
  | exact wpAny_bind (wpAny_bind (m:=Builtin.Tuple.tupleExact _) (wpAny_newObj_type (wpAny_pure (wpAny_pure ⟨_,rfl,wpAny_pure h⟩)) htake))
  | exact wpAny_bind (wpAny_bind (m:=Builtin.Tuple.tupleExact _) (wpAny_newObj_type (wpAny_pure ⟨_,rfl,wpAny_pure h⟩) htake))
end
end HT
namespace L2
open PySem PySem.Spec PyProof.Rows
abbrev TO:=St->Hp->(Option Int->Hp->Prop)->Prop
def PO (X:Cx) (e:Option Expr) (t:TO):Prop:=
 ∀ (pins:List (Addr × Obj)) (s:Shared) (σ:St) (H:Hp) (Q:Option Int->Hp->Prop),Inv X pins σ H s->t σ H Q →
  wpAny (model X.prog X.w) X.A (evalPart e X.env) (fun u s'=>∃ o H',Inv X pins σ H' s'/\IsPart u o/\Q o H') X.xe s
def tNoPart:TO:=fun _ H Q=>Q none H
def tPart (t:TE):TO:=fun σ H Q=>t σ H fun x H1=>∃ i,x=.int i/\Q (some i) H1
section
variable {X:Cx} {e:Expr} {te:TE} {lo hi:Option Expr} {tl th:TO} {pos p2:Pos}
theorem po_none:PO X none tNoPart:=by
 intro pins s σ H Q I h
 rw [evalPart_none]
 exact wpAny_pure ⟨none,H,I,.none,h⟩
theorem po_some (h:PE X e te):PO X (some e) (tPart te):=by
 intro pins s σ H Q I hw
 rw [evalPart_some]
 refine thn (h pins s σ H _ I hw) fun u s1 ⟨x,H1,I1,r1,q1⟩=>?_
 obtain ⟨i,rfl,q⟩:=q1
 obtain ⟨t,rfl⟩:=r1
 exact ⟨some i,H1,I1,.int i t,q⟩
def SlR (X:Cx) (r:V->Option Int->Option Int->Hp->VK->Prop):Prop:=
 ∀ (pins:List (Addr × Obj)) (s:Shared) (σ:St) (H:Hp) (x:V) (v vl vu:Value) (lo hi:Option Int) (sl:Addr) (Q:VK),Inv X pins σ H s->RelV x v->s.heap.IsSliceOf sl vl vu .none->IsPart vl lo->IsPart vu hi->r x lo hi H Q →
  ∃ T id,typeLookup (.type T) "__getitem__" = pure (some (.builtin id))/\s.TypeIs v T/\wpAny (model X.prog X.w) X.A (getItem v (.ref sl)) (EP X pins σ Q) X.xe s
def tSl (r:V->Option Int->Option Int->Hp->VK->Prop) (te:TE) (tl th:TO):TE:=fun σ H Q=>te σ H fun x H1=>tl σ H1 fun l H2=>th σ H2 fun u H3=>r x l u H3 Q
theorem pe_slice {r:V->Option Int->Option Int->Hp->VK->Prop} (hr:SlR X r) (he:PE X e te) (hl:PO X lo tl) (hu:PO X hi th):PE X (.Subscript e (.Slice lo hi none p2) pos) (tSl r te tl th):=by
 intro pins s σ H Q I h
 refine Subscript_ (thn (he pins s σ H _ I h) fun v s1 ⟨x,H1,I1,r1,q1⟩=>?_)
 refine wpAny_Slice (thn (hl pins s1 σ H1 _ I1 q1) fun vl s2 ⟨l,H2,I2,pl,q2⟩=>thn (hu pins s2 σ H2 _ I2 q2) fun vu s3 ⟨u,H3,I3,pu,q3⟩=>?_)
 rw [evalPart_none]
 refine wpAny_pure ?_
 have I4:Inv X pins σ H3 { s3 with heap:=s3.heap.push { cls:=.type "slice",data:=.fields #[vl,vu,.none] } }:=I3.kept (t':=s3.toks) fun b ob q=>Heap.get?_push_of_some _ q
 obtain ⟨T,id,hT,ht,hg⟩:=hr pins { s3 with heap:=s3.heap.push { cls:=.type "slice",data:=.fields #[vl,vu,.none] } } σ H3 x v vl vu l u s3.heap.objs.size Q I4 r1 (Heap.IsSliceOf.new ..) pl pu q3
 show wpAny (model X.prog X.w) X.A (subscriptTail e (.Slice lo hi none p2) v (.ref s3.heap.objs.size)) (EP X pins σ Q) X.xe { s3 with heap:=s3.heap.push { cls:=.type "slice",data:=.fields #[vl,vu,.none] } }
 exact tail_any (ops:=[.ref s3.heap.objs.size,v]) ht hT hg (by with_unfolding_all rfl)
def cutV (xs:List V) (lo hi:Option Int):List V:=(xs.drop (HT.sIx xs.length 0 lo)).take (HT.sIx xs.length xs.length hi - HT.sIx xs.length 0 lo)
theorem cutV_length (xs:List V) (lo hi:Option Int):(cutV xs lo hi).length<=xs.length:=by
 unfold cutV
 rw [List.length_take,List.length_drop]
 omega
def rSlT (K:PySem.W.Frag):V->Option Int->Option Int->Hp->VK->Prop:=fun x lo hi H Q=>∃ a xs,x=.ref a/\SqT K H a xs ∧
 ¬ (HT.sIx xs.length 0 lo=0/\HT.sIx xs.length xs.length hi=xs.length)/\∀ p,H p=none->Q (.ref p) (upd H p (.tup (cutV xs lo hi)))
theorem sl_tup:SlR X (rSlT X.K):=by
 intro pins s σ H x v vl vu lo hi sl Q I rx hs pl pu h
 obtain ⟨a,xs,rfl,hx,hw,q⟩:=h
 cases rx
 obtain ⟨its,r,ht,hz⟩:=I.tuple hx
 have hlen:its.toArray.size=xs.length:=by rw [List.size_toArray];exact r.length.symm
 refine ⟨"tuple",_,PyProof.Rows.slot_tuple_getitem.lookup,ht.typeIs,?_⟩
 refine HT.getItem_tuple_cut ht hs pl pu (by rw [hlen];exact hw) ?_ (by rw [hlen];exact hz)
 rw [hlen]
 refine ⟨.ref s.heap.objs.size,_,I.laid (t':=s.toks) (o:=.tup (cutV xs lo hi)) (fun b ob q=>Heap.get?_push_of_some _ q) (Nat.le_refl _) ?_,rfl,q _ (I.hok.fresh (Nat.le_refl _))⟩
 exact ⟨Nat.le_trans (cutV_length xs lo hi) hz,_,(r.drop (HT.sIx xs.length 0 lo)).take (HT.sIx xs.length xs.length hi - HT.sIx xs.length 0 lo),IsTup.new _ _⟩
def rCatT (K:PySem.W.Frag):R2:=fun x y H Q=>∃ a b xs ys,x=.ref a/\y=.ref b/\SqT K H a xs/\SqT K H b ys/\xs ≠ []/\xs.length+ys.length<=sizeLine ∧
 (ys=[]->Q (.ref a) H)/\(ys ≠ []->∀ p,H p=none->Q (.ref p) (upd H p (.tup (xs++ys))))
theorem Vals.nil_iff {xs:List V} {us:List Value} (r:Vals xs us):us=[] ↔ xs=[]:=by
 cases r with
 | nil=>simp
 | cons _ _=>simp
theorem op_catT:OpR X (binaryOp .Add) (rCatT X.K):=by
 intro pins s σ H x y v u Q I rx ry h
 obtain ⟨a,b,xs,ys,rfl,rfl,ha,hb,hx,hz,q1,q2⟩:=h
 cases rx
 cases ry
 obtain ⟨its,r1,p1,_⟩:=I.tuple ha
 obtain ⟨its2,r2,p2,_⟩:=I.tuple hb
 refine HT.cat_tup p1 p2 (fun z=>hx (r1.nil_iff.mp z)) (fun z=>⟨.ref a,H,I,rfl,q1 (r2.nil_iff.mp z)⟩) (fun z=>?_) (by rw [<-r1.length,<-r2.length];exact hz)
 refine ⟨.ref s.heap.objs.size,_,I.laid (t':=s.toks) (o:=.tup (xs++ys)) (fun b ob q=>Heap.get?_push_of_some _ q) (Nat.le_refl _) ?_,rfl,q2 (fun w=>z (r2.nil_iff.mpr w)) _ (I.hok.fresh (Nat.le_refl _))⟩
 exact ⟨by rw [List.length_append];exact hz,_,r1.append r2,IsTup.new _ _⟩
end
end L2
namespace L2
open PySem PySem.Spec PyProof.Rows
def ixN (n:Nat) (i:Int):Option Nat:=if 0<=i then (if i < n then some i.toNat else none) else if -(n:Int)<=i then some (i+n).toNat else none
def atI {α:Type} (xs:List α) (i:Int):Option α:=(ixN xs.length i).bind fun j=>xs[j]?
theorem ixN_seq {n:Nat} {i:Int} {j:Nat} (h:ixN n i=some j):seqIndex? i n=some j/\j < n/\-(n:Int)<=i/\i < n:=by
 unfold ixN at h
 by_cases h0:0<=i
 ·rw [if_pos h0] at h
  by_cases h1:i < n
  ·rw [if_pos h1] at h
   have e:i.toNat=j:=Option.some.inj h
   exact ⟨by rw [seqIndex_of h0 h1,e],by omega,by omega,h1⟩
  ·rw [if_neg h1] at h;cases h
 ·rw [if_neg h0] at h
  by_cases h1:-(n:Int)<=i
  ·rw [if_pos h1] at h
   have e:(i+n).toNat=j:=Option.some.inj h
   exact ⟨by rw [seqIndex_neg (by omega) h1,e],by omega,h1,by omega⟩
  ·rw [if_neg h1] at h;cases h
theorem atI_get {α:Type} {xs:List α} {i:Int} {v:α} (h:atI xs i=some v):∃ j,seqIndex? i xs.length=some j/\xs[j]?=some v/\j < xs.length/\-(xs.length:Int)<=i/\i < xs.length:=by
 unfold atI at h
 cases e:ixN xs.length i with
 | none=>rw [e] at h;cases h
 | some j=>
  rw [e] at h
  obtain ⟨h1,h2,h3,h4⟩:=ixN_seq e
  exact ⟨j,h1,h,h2,h3,h4⟩
theorem atI_nat {α:Type} {xs:List α} {j:Nat} {v:α} (h:xs[j]?=some v):atI xs (j:Int)=some v:=by
 have hj:j < xs.length:=(List.getElem?_eq_some_iff.mp h).1
 have e:ixN xs.length (j:Int)=some j:=by
  unfold ixN
  rw [if_pos (by omega),if_pos (by omega)];simp
 unfold atI;rw [e];exact h
theorem atI_last {α:Type} (xs:List α) (v:α):atI (xs++[v]) (-1)=some v:=by
 have hl:(xs++[v]).length=xs.length+1:=by simp
 have e:ixN (xs++[v]).length (-1)=some xs.length:=by
  unfold ixN
  rw [hl,if_neg (by decide),if_pos (by omega)]
  congr 1
  omega
 unfold atI
 rw [e]
 show (xs++[v])[xs.length]?=some v
 simp
def PlainIx (b:Expr):Prop:=∀ o i,subscripted b false o i=operate [o,i] (getItem o i)
def IxR (X:Cx) (r:R2):Prop:=
 ∀ (value slice:Expr) (pins:List (Addr × Obj)) (s:Shared) (σ:St) (H:Hp) (x y:V) (v u:Value) (Q:VK),Inv X pins σ H s->RelV x v->RelV y u->r x y H Q →
  subscripted slice false v u=operate [v,u] (getItem v u)->wpAny (model X.prog X.w) X.A (subscriptTail value slice v u) (EP X pins σ Q) X.xe s
def MtR (X:Cx) (id:String) (r:V->List V->Hp->VK->Prop):Prop:=
 ∀ (pins:List (Addr × Obj)) (s:Shared) (σ:St) (H:Hp) (x:V) (xs:List V) (v:Value) (us:List Value) (Q:VK),Inv X pins σ H s->RelV x v->Vals xs us->r x xs H Q →
  wpAny (model X.prog X.w) X.A (call (.builtin id) (v :: us)) (EP X pins σ Q) X.xe s
section
variable {X:Cx} {a b:Expr} {ta tb:TE} {pos:Pos}
theorem pe_ix {r:R2} (hr:IxR X r) (ha:PE X a ta) (hb:PE X b tb) (hs:PlainIx b):PE X (.Subscript a b pos) (tOp r ta tb):=by
 intro pins s σ H Q I h
 exact Subscript_ (binT ha hb I h fun v u s2 x y H2 I2 rx ry q=>hr a b pins s2 σ H2 x y v u Q I2 rx ry q (hs _ _))
def rIxL (K:PySem.W.Frag):R2:=fun x y H Q=>∃ p xs i v,x=.ref p/\y=.int i/\SqL K H p xs/\atI xs i=some v/\Q v H
def rIxT (K:PySem.W.Frag):R2:=fun x y H Q=>∃ p xs i v,x=.ref p/\y=.int i/\SqT K H p xs/\atI xs i=some v/\Q v H
def rIxS:R2:=fun x y H Q=>∃ z i c,x=.str z/\y=.int i/\z.length<=sizeLine/\atI z.cps.toList i=some c/\Q (.str ⟨#[c]⟩) H
theorem ix_list:IxR X (rIxL X.K):=by
 intro value slice pins s σ H x y v u Q I rx ry h hs
 obtain ⟨p,xs,i,z,rfl,rfl,hq,he,q⟩:=h
 cases rx
 obtain ⟨t,rfl⟩:=ry
 obtain ⟨its,r,pl,hz⟩:=I.list hq
 obtain ⟨j,h1,h2,h3,h4,h5⟩:=atI_get he
 obtain ⟨w,ew,rw'⟩:=r.get h2
 have hl:=r.length
 have hn:=line63
 have fin:EP X pins σ Q w s:=⟨z,H,I,rw',q⟩
 by_cases h0:0<=i
 ·have hj:i.toNat=j:=by
   rw [seqIndex_of h0 h5] at h1
   exact Option.some.inj h1
  exact item_listR pl.isList h0 (by omega) (by rw [hj];simpa using ew) fin hs
 ·have hj:(i+(its.toArray.size:Int)).toNat=j:=by
   rw [seqIndex_neg (by omega) h4] at h1
   rw [List.size_toArray,<-hl]
   exact Option.some.inj h1
  exact subscriptTail_builtinR (x:=w) pl.isList.typeIs slot_list_getitem.lookup
   (wpAny_getItem_list_neg (Q:=fun r s'=>r=w/\EP X pins σ Q r s') pl.isList (by omega) (by rw [List.size_toArray] <;> omega) (by omega) (by rw [hj];simpa using ew) ⟨rfl,fin⟩) hs
theorem ix_tup:IxR X (rIxT X.K):=by
 intro value slice pins s σ H x y v u Q I rx ry h hs
 obtain ⟨p,xs,i,z,rfl,rfl,hq,he,q⟩:=h
 cases rx
 obtain ⟨t,rfl⟩:=ry
 obtain ⟨its,r,pl,hz⟩:=I.tuple hq
 obtain ⟨j,h1,h2,h3,h4,h5⟩:=atI_get he
 obtain ⟨w,ew,rw'⟩:=r.get h2
 have hl:=r.length
 have hn:=line63
 have fin:EP X pins σ Q w s:=⟨z,H,I,rw',q⟩
 exact subscriptTail_builtinR (x:=w) pl.typeIs slot_tuple_getitem.lookup
  (getItem_tuple (j:=j) (Q:=fun r s'=>r=w/\EP X pins σ Q r s') pl (by omega) (by omega) (by rw [List.size_toArray,<-hl];exact h1) (by simpa using ew) ⟨rfl,fin⟩) hs
theorem ix_str:IxR X rIxS:=by
 intro value slice pins s σ H x y v u Q I rx ry h hs
 obtain ⟨z,i,c,rfl,rfl,hz,he,q⟩:=h
 obtain ⟨t,rfl⟩:=rx
 obtain ⟨t',rfl⟩:=ry
 obtain ⟨j,h1,h2,h3,h4,h5⟩:=atI_get he
 have hl:z.cps.toList.length=z.length:=by simp [Str.length]
 rw [hl] at h1 h4 h5
 have hn:=line63
 exact tail_any (typeIs_str s z t) slot_str_getitem.lookup (getItem_str (c:=c) (by
  have e1:decide (i < -(2 ^ 63:Int))=false:=decide_eq_false (by omega)
  have e2:decide (i ≥ 2 ^ 63)=false:=decide_eq_false (by omega)
  rw [e1,e2,Bool.or_false]) (by rw [h1];simpa using h2) ⟨.str ⟨#[c]⟩,H,I.tok _,⟨_,rfl⟩,q⟩) hs
theorem mapSeq_set (its:List Value) (n j:Nat) (u:Value):Obj.mapSeq (·.setIfInBounds j u) { cls:=.type "list",data:=.seq its.toArray n }={ cls:=.type "list",data:=.seq (its.set j u).toArray n }:=by
 simp [Obj.mapSeq]
theorem Inv.lst {pins:List (Addr × Obj)} {σ:St} {H:Hp} {s:Shared} {p:Addr} {xs:List V} (I:Inv X pins σ H s) (h:H p=some (.lst xs)) :
  ∃ (its:List Value) (n:Nat),Vals xs its/\s.heap.get? p=some { cls:=.type "list",data:=.seq its.toArray n }/\xs.length<=sizeLine:=by
 obtain ⟨z,its,n,r,e⟩:=I.hok p _ h
 exact ⟨its,n,r,e,z⟩
theorem Inv.lstUpd {pins:List (Addr × Obj)} {σ:St} {H:Hp} {s:Shared} {p:Addr} {xs ys:List V} {its its':List Value} {n n':Nat} {f:Obj->Obj} (I:Inv X pins σ H s) (h:H p=some (.lst xs))
  (ho:s.heap.get? p=some { cls:=.type "list",data:=.seq its.toArray n }) (hf:f { cls:=.type "list",data:=.seq its.toArray n }={ cls:=.type "list",data:=.seq its'.toArray n' }) (r:Vals ys its') (hz:ys.length<=sizeLine) (t:Nat) :
  Inv X pins σ (upd H p (.lst ys)) { s with heap:=s.heap.update p f,toks:=t }:=by
 have e:(s.heap.update p f).get? p=some { cls:=.type "list",data:=.seq its'.toArray n' }:=by
  rw [Heap.get?_update_self f ho (by rw [hf] <;> rfl),hf]
 refine I.write (x:=p) (e:=p) (by rw [h];trivial) (.inl rfl) (fun b u hb q=>(Heap.get?_update_other _ _ (Ne.symm hb)).trans q) ⟨_,e⟩ ?_
 exact ⟨hz,its',n',r,e⟩
def rSetL:V->V->V->Hp->(Hp->Prop)->Prop:=fun o i v H Q=>∃ p xs k j,o=.ref p/\i=.int k/\H p=some (.lst xs)/\ixN xs.length k=some j/\Q (upd H p (.lst (xs.set j v)))
theorem set_list:PSet X rSetL:=by
 intro pins s σ H o i v ov iv u Q I ro ri rv h
 obtain ⟨p,xs,k,j,rfl,rfl,hp,hj,q⟩:=h
 cases ro
 obtain ⟨t,rfl⟩:=ri
 obtain ⟨its,n,r,ho,hz⟩:=I.lst hp
 obtain ⟨h1,h2,h3,h4⟩:=ixN_seq hj
 have hl:=r.length
 have hn:=line63
 have I':Inv X pins σ (upd H p (.lst (xs.set j v))) { s with heap:=s.heap.update p (Obj.mapSeq (·.setIfInBounds j u)) }:=
  I.lstUpd hp ho (mapSeq_set its n j u) (r.set rv j) (by rw [List.length_set];exact hz) s.toks
 by_cases h0:0<=k
 ·have hk:k.toNat=j:=by
   rw [seqIndex_of h0 h4] at h1
   exact Option.some.inj h1
  exact PySem.W.ki_setAt ho h0 (by omega) (by rw [List.size_toArray,<-hl];exact h4) (by rw [hk];exact ⟨_,I',q⟩)
 ·have hk:(k+(its.toArray.size:Int)).toNat=j:=by
   rw [seqIndex_neg (by omega) h3] at h1
   rw [List.size_toArray,<-hl]
   exact Option.some.inj h1
  exact PySem.W.ki_setBack ho (by omega) (by rw [List.size_toArray,<-hl];exact h3) (by omega) (by rw [hk];exact ⟨_,I',q⟩)
def flatV:V->Bool
 | .non=>true
 | .bl _=>true
 | .int _=>true
 | .str _=>true
 | _=>false
def eqV:V->V->Bool
 | .non,.non=>true
 | .bl a,.bl b=>a == b
 | .bl a,.int b=>(if a then 1 else 0) == b
 | .int a,.bl b=>a == (if b then 1 else 0)
 | .int a,.int b=>a == b
 | .str a,.str b=>a == b
 | _,_=>false
theorem eqAt_V {A:Around} {s:Shared} {y x:V} {u v:Value} (ry:RelV y u) (rx:RelV x v) (fy:flatV y=true) (fx:flatV x=true):SeqAt.EqAt A s u v (eqV y x):=by
 cases y with
 | non=>
  cases ry
  cases x with
  | non=>cases rx;exact SeqAt.EqAt.same _
  | bl b=>cases rx;exact SeqAt.EqAt.none_bool b
  | int b=>obtain ⟨t,rfl⟩:=rx;exact SeqAt.EqAt.none_int b t
  | str b=>obtain ⟨t,rfl⟩:=rx;exact SeqAt.EqAt.none_str b t
  | _=>exact absurd (show false=true from fx) Bool.false_ne_true
 | bl a=>
  cases ry
  cases x with
  | non=>cases rx;exact SeqAt.EqAt.bool_none a
  | bl b=>cases rx;exact SeqAt.EqAt.bool_bool a b
  | int b=>obtain ⟨t,rfl⟩:=rx;exact SeqAt.EqAt.bool_int a b t
  | str b=>obtain ⟨t,rfl⟩:=rx;exact SeqAt.EqAt.bool_str a b t
  | _=>exact absurd (show false=true from fx) Bool.false_ne_true
 | int a=>
  obtain ⟨t',rfl⟩:=ry
  cases x with
  | non=>cases rx;exact SeqAt.EqAt.int_none a t'
  | bl b=>cases rx;exact SeqAt.EqAt.int_bool a t' b
  | int b=>obtain ⟨t,rfl⟩:=rx;exact SeqAt.EqAt.int_int a t' b t
  | str b=>obtain ⟨t,rfl⟩:=rx;exact SeqAt.EqAt.int_str a t' b t
  | _=>exact absurd (show false=true from fx) Bool.false_ne_true
 | str a=>
  obtain ⟨t',rfl⟩:=ry
  cases x with
  | non=>cases rx;exact SeqAt.EqAt.str_none a t'
  | bl b=>cases rx;exact SeqAt.EqAt.str_bool a t' b
  | int b=>obtain ⟨t,rfl⟩:=rx;exact SeqAt.EqAt.str_int a t' b t
  | str b=>obtain ⟨t,rfl⟩:=rx;exact SeqAt.EqAt.str_str a t' b t
  | _=>exact absurd (show false=true from fx) Bool.false_ne_true
 | _=>exact absurd (show false=true from fy) Bool.false_ne_true
def eqU (x:V) (u:Value):Bool:=match u with
 | .none=>eqV .non x
 | .bool b=>eqV (.bl b) x
 | .int i _=>eqV (.int i) x
 | .str z _=>eqV (.str z) x
 | _=>false
theorem eqU_of {x y:V} {u:Value} (r:RelV y u) (f:flatV y=true):eqU x u=eqV y x:=by
 cases y with
 | non=>cases r;rfl
 | bl b=>cases r;rfl
 | int i=>obtain ⟨t,rfl⟩:=r;rfl
 | str z=>obtain ⟨t,rfl⟩:=r;rfl
 | _=>exact absurd (show false=true from f) Bool.false_ne_true
theorem any_eqU {x:V}:∀ {xs:List V} {us:List Value},Vals xs us->xs.all flatV=true->us.any (eqU x)=xs.any fun y=>eqV y x
 | _,_,.nil,_=>rfl
 | y :: xs,u :: us,.cons r t,f=>by
  rw [List.all_cons,Bool.and_eq_true] at f
  rw [List.any_cons,List.any_cons,eqU_of r f.1,any_eqU t f.2]
theorem mem_eqAt {A:Around} {s:Shared} {x:V} {v:Value} (rx:RelV x v) (fx:flatV x=true):∀ {xs:List V} {us:List Value},Vals xs us->xs.all flatV=true->∀ u ∈ us,SeqAt.EqAt A s u v (eqU x u)
 | _,_,.nil,_=>fun u hu=>by cases hu
 | y :: xs,u :: us,.cons r t,f=>fun u' hu=>by
  rw [List.all_cons,Bool.and_eq_true] at f
  rcases List.mem_cons.mp hu with rfl | hu
  ·rw [eqU_of r f.1];exact eqAt_V r rx f.1 fx
  ·exact mem_eqAt rx fx t f.2 u' hu
def inV (x:V) (xs:List V):Bool:=xs.any fun y=>eqV y x
def rIn (K:PySem.W.Frag) (neg:Bool):R2:=fun x y H Q=>∃ p xs,y=.ref p/\(SqL K H p xs\/SqT K H p xs)/\flatV x=true/\xs.all flatV=true/\Q (.bl (if neg then !inV x xs else inV x xs)) H
theorem op_in_seq:OpR X (compareOp .In) (rIn X.K false):=by
 intro pins s σ H x y v u Q I rx ry h
 obtain ⟨p,xs,rfl,hq,fx,fs,q⟩:=h
 cases ry
 rcases hq with hq | hq
 ·obtain ⟨its,r,pl,hz⟩:=I.list hq
  refine SeqAt.in_listAt (eqU x) pl.isList (fun w hw=>mem_eqAt rx fx r fs w (by simpa using hw)) ⟨.bl _,H,I,rfl,?_⟩
  rw [show its.toArray.any (eqU x)=its.any (eqU x) by simp,any_eqU r fs]
  exact q
 ·obtain ⟨its,r,pl,hz⟩:=I.tuple hq
  refine SeqAt.in_tupleAt (eqU x) pl (fun w hw=>mem_eqAt rx fx r fs w (by simpa using hw)) ⟨.bl _,H,I,rfl,?_⟩
  rw [show its.toArray.any (eqU x)=its.any (eqU x) by simp,any_eqU r fs]
  exact q
theorem call_len_seq:CallR X (.builtin "len") (fun xs H Q=>∃ p ys,xs=[.ref p]/\(SqL X.K H p ys\/SqT X.K H p ys)/\Q (.int ys.length) H):=by
 intro pins s σ H xs us Q I r h
 obtain ⟨p,ys,rfl,hq,q⟩:=h
 obtain ⟨u,rfl,rx⟩:=vals1 r
 cases rx
 have hn:=line63
 rcases hq with hq | hq
 ·obtain ⟨its,r',pl,hz⟩:=I.list hq
  have hlen:=r'.length
  exact Calls.call_len_list pl.isList (by simp only [List.size_toArray] <;> omega) ⟨.int ys.length,H,I.tok _,⟨s.toks+1,by rw [List.size_toArray,hlen]⟩,q⟩
 ·obtain ⟨its,r',pl,hz⟩:=I.tuple hq
  have hlen:=r'.length
  exact len_tuple pl (by simp only [List.size_toArray] <;> omega) ⟨.int ys.length,H,I.tok _,⟨s.toks+1,by rw [List.size_toArray,hlen]⟩,q⟩
theorem call_len_str:CallR X (.builtin "len") (fun xs H Q=>∃ z,xs=[.str z]/\z.length<=sizeLine/\Q (.int z.length) H):=by
 intro pins s σ H xs us Q I r h
 obtain ⟨z,rfl,hz,q⟩:=h
 obtain ⟨u,rfl,t,rfl⟩:=vals1 r
 have hn:=line63
 exact len_str (by omega) ⟨.int z.length,H,I.tok _,⟨_,rfl⟩,q⟩
theorem call_tuple_of:CallR X (.type "tuple") (fun xs H Q=>∃ p ys,xs=[.ref p]/\((SqL X.K H p ys/\∀ l,H l=none->Q (.ref l) (upd H l (.tup ys)))\/(SqT X.K H p ys/\Q (.ref p) H))):=by
 intro pins s σ H xs us Q I r h
 obtain ⟨p,ys,rfl,h⟩:=h
 obtain ⟨u,rfl,rx⟩:=vals1 r
 cases rx
 rcases h with ⟨hq,q⟩ | ⟨hq,q⟩
 ·obtain ⟨its,r',pl,hz⟩:=I.list hq
  have hlen:=r'.length
  refine call_tuple_list pl.isList (fun h' kp=>?_) (by simp only [List.size_toArray] <;> omega)
  have I1:Inv X pins σ H { s with heap:=h' }:=I.kept (t':=s.toks) kp
  have I2:Inv X pins σ (upd H h'.objs.size (.tup ys)) { s with heap:=h'.push { cls:=.type "tuple",data:=.seq its.toArray } }:=
   I1.laid (t':=s.toks) (fun b o e=>Heap.get?_push_of_some _ e) (Nat.le_refl _) (show ObjOk X.prog X.w _ _ _ (.tup ys) from ⟨hz,its,r',IsTup.new _ _⟩)
  exact ⟨.ref h'.objs.size,_,I2,rfl,q _ (I1.hok.fresh (Nat.le_refl _))⟩
 ·obtain ⟨its,r',pl,hz⟩:=I.tuple hq
  exact call_tuple_same pl ⟨.ref p,H,I,rfl,q⟩
def tyV (K:PySem.W.Frag) (T:String) (x:V) (H:Hp):Prop:=match x with
 | .str _=>T = "str"
 | .int _=>T = "int"
 | .ref p=>(T = "list"/\∃ xs,SqL K H p xs)\/(T = "tuple"/\∃ o,K.lookup p=some o/\o.cls=.type "tuple"/\o.dict=none) ∨
   (T = "dict"/\((∃ kvs,H p=some (.dK kvs))\/∃ kvs,H p=some (.dT kvs)))\/(T = "set"/\∃ S n,H p=some (.set S n))
 | _=>False
theorem tyV_is {pins:List (Addr × Obj)} {σ:St} {H:Hp} {s:Shared} {T:String} {x:V} {v:Value} (I:Inv X pins σ H s) (r:RelV x v) (ty:tyV X.K T x H) :
  s.TypeIs v T/\∀ a,v=.ref a->∃ ob,s.heap.get? a=some ob/\ob.dict=none:=by
 cases x with
 | str z=>
  obtain ⟨t,rfl⟩:=r
  cases (show T = "str" from ty)
  exact ⟨typeIs_str s z t,fun _ e=>nomatch e⟩
 | int i=>
  obtain ⟨t,rfl⟩:=r
  cases (show T = "int" from ty)
  exact ⟨typeIs_int s i t,fun _ e=>nomatch e⟩
 | ref p=>
  cases r
  rcases ty with ⟨rfl,xs,hq⟩ | ⟨rfl,o,hk,hc,hd⟩ | ⟨rfl,hk⟩ | ⟨rfl,S,n,hk⟩
  ·obtain ⟨its,_,pl,_⟩:=I.list hq
   refine ⟨pl.isList.typeIs,fun a e=>?_⟩
   cases e
   obtain ⟨o,n,e,c,hd,_⟩:=pl
   exact ⟨o,e,hd⟩
  ·refine ⟨⟨o,I.kIn p o hk,hc⟩,fun a e=>?_⟩
   cases e
   exact ⟨o,I.kIn _ o hk,hd⟩
  ·have z:∃ o,s.heap.get? p=some o/\o.ExactDict:=by
    rcases hk with ⟨kvs,hk⟩ | ⟨kvs,hk⟩
    ·obtain ⟨_,_,_,_,o,_,_,e,ex,_⟩:=I.hok p _ hk
     exact ⟨o,e,ex⟩
    ·exact False.elim (show ObjOk X.prog X.w H s.heap p (.dT kvs) from I.hok p _ hk)
   obtain ⟨o,e,ex⟩:=z
   refine ⟨⟨o,e,ex.1⟩,fun a e2=>?_⟩
   cases e2
   exact ⟨o,e,ex.2.1⟩
  ·obtain ⟨o,_,_,_,e,ex,_⟩:=I.hok p _ hk
   refine ⟨⟨o,e,ex.1⟩,fun a e2=>?_⟩
   cases e2
   exact ⟨o,e,ex.2.1⟩
 | _=>exact False.elim ty
def tBM (K:PySem.W.Frag) (T:String) (r:V->List V->Hp->VK->Prop) (to:TE) (t:TA):TE:=fun σ H Q=>to σ H fun x H1=>tyV K T x H1/\t σ H1 fun xs H2=>r x xs H2 Q
variable {o e:Expr} {es:List Expr} {to:TE} {t:TA} {name:Str} {apos cpos:Pos} {T id:String} {r:V->List V->Hp->VK->Prop}
theorem pe_bm (pa:PlainAttrs T) (slot:Slot T name id) (hty:typeOf (.builtin id)=pure (.type "method_descriptor")) (hm:MtR X id r) (ho:PE X o to) (ha:PA X (e :: es) t)
  (hbase:attributeBase o name X.env (eval o X.env)=eval o X.env:=by rfl)
  (hfew:((backTo cpos (starEach (e :: es) X.env)).all (fun x=>!x.1) && (backToKw cpos (keywordEach [] X.env)).all (fun x=>x.1.isSome)
   && decide ((e :: es).length+([]:List Keyword).length+(if ([]:List Keyword).isEmpty then 0 else 1) < 30))=true:=by rfl)
  (hline:(apos.endLine == cpos.line)=true:=by rfl) (hs:starEach (e :: es) X.env=(false,eval e X.env) :: starEach es X.env:=by rfl) (hplain:(backTo cpos (starEach es X.env)).any (·.1)=false:=by rfl) :
  PE X (.Call (.Attribute o name apos) (e :: es) [] cpos) (tBM X.K T r to t):=by
 intro pins s σ H Q I h
 refine wpAny_Call_method_late hbase hfew hline rfl (thn (ho pins s σ H _ I h) fun v s1 ⟨x,H1,I1,r1,ty,q1⟩=>?_)
 obtain ⟨h1,h2⟩:=tyV_is I1 r1 ty
 refine ⟨T,id,pa,slot,hty,h1,h2,?_⟩
 have hA:=ha cpos pins s1 σ H1 _ I1 q1
 rw [hs] at hA ⊢
 refine Calls.callWith_builtin (by show (false || (backTo cpos (starEach es X.env)).any (·.1))=false;rw [hplain] <;> rfl) (Calls.evalArgs_plain ?_)
 exact thn hA fun us s2 ⟨vs,H2,I2,r2,q2⟩=>hm pins s2 σ H2 x vs v us Q I2 r1 r2 q2
/- xs.append(e),list.index on a module's tuple .. are MtR facts of 06m -/
end
end L2
namespace L2
open PySem PySem.Spec PyProof.Rows
def MtM (X:Cx) (id:String) (r:V->List V->Hp->VK->Prop):Prop:=
 ∀ (pins:List (Addr × Obj)) (s:Shared) (σ:St) (H:Hp) (x:V) (xs:List V) (v:Value) (us:List Value) (Q:VK),Inv X pins σ H s->RelV x v->Vals xs us->r x xs H Q →
  wpAny (model X.prog X.w) X.A (call (.builtin id) (v :: us)) (EP X pins σ Q) X.xe s
theorem Vals.one:∀ {x:V} {us:List Value},Vals [x] us->∃ u,us=[u]/\RelV x u
 | _,_,.cons r .nil=>⟨_,rfl,r⟩
theorem Vals.two:∀ {x y:V} {us:List Value},Vals [x,y] us->∃ u v,us=[u,v]/\RelV x u/\RelV y v
 | _,_,_,.cons r (.cons q .nil)=>⟨_,_,rfl,r,q⟩
theorem Vals.rep {xs:List V} {us:List Value} (h:Vals xs us):∀ k:Nat,Vals (List.replicate k xs).flatten (List.replicate k us).flatten
 | 0=>.nil
 | k+1=>by
  rw [List.replicate_succ,List.replicate_succ,List.flatten_cons,List.flatten_cons]
  exact Vals.append h (Vals.rep h k)
theorem foldl_rep (its:List Value):∀ (k:Nat) (acc:List Value),
  List.foldl (fun x1 x2=>x1++x2) acc.toArray (List.replicate k its.toArray)=(acc++(List.replicate k its).flatten).toArray
 | 0,acc=>by simp
 | k+1,acc=>by
  have e:acc.toArray++its.toArray=(acc++its).toArray:=by simp
  have e2:(acc++its)++(List.replicate k its).flatten=acc++(List.replicate (k+1) its).flatten:=by
   rw [List.replicate_succ,List.flatten_cons,List.append_assoc]
  rw [<-e2,<-foldl_rep its k (acc++its),<-e,List.replicate_succ,List.foldl_cons]
section
variable {X:Cx} {pins:List (Addr × Obj)} {σ:St} {H:Hp} {s:Shared} {l b:Addr} {xs ys zs:List V}
theorem Inv.lset {its its':List Value} {n:Nat} {f:Array Value->Array Value} {t':Nat} (I:Inv X pins σ H s) (hH:H l=some (.lst xs))
  (e:s.heap.get? l=some { cls:=.type "list",data:=.seq its.toArray n }) (hf:f its.toArray=its'.toArray) (hv:Vals ys its') (hz:ys.length<=sizeLine) :
  Inv X pins σ (upd H l (.lst ys)) { s with heap:=s.heap.update l (Obj.mapSeq f),toks:=t' }:=by
 have q:=PySem.IsL.update e f
 rw [hf] at q
 refine I.write (x:=l) (e:=l) (by rw [hH];exact trivial) (.inl rfl) (fun b' u hb hu=>(Heap.get?_update_other s.heap (Obj.mapSeq f) (Ne.symm hb)).trans hu) ⟨_,q⟩ ?_
 exact ⟨hz,its',_,hv,q⟩
theorem Inv.lnew {its:List Value} {t':Nat} (I:Inv X pins σ H s) (hv:Vals ys its) (hz:ys.length<=sizeLine) :
  Inv X pins σ (upd H s.heap.objs.size (.lst ys)) { s with heap:=s.heap.push { cls:=.type "list",data:=.seq its.toArray },toks:=t' }:=
 I.laid (fun _ _ q=>Heap.get?_push_of_some _ q) (Nat.le_refl _) ⟨hz,its,0,hv,Heap.get?_push_size _ rfl⟩
theorem Inv.fresh (I:Inv X pins σ H s):H s.heap.objs.size=none:=I.hok.fresh (Nat.le_refl _)
theorem Inv.lstM (I:Inv X pins σ H s) (hH:H l=some (.lst xs)):xs.length<=sizeLine/\∃ (its:List Value) (n:Nat),Vals xs its/\xs.length=its.length/\s.heap.get? l=some { cls:=.type "list",data:=.seq its.toArray n }:=by
 obtain ⟨z,its,n,r,e⟩:=I.hok l _ hH
 exact ⟨z,its,n,r,r.length,e⟩
theorem notLongL {n:Nat} (h:n<=sizeLine):Builtin.List.listTooLong n=false:=by
 unfold Builtin.List.listTooLong
 exact decide_eq_false (by omega)
end
section
variable {X:Cx}
def rAppend:V->List V->Hp->VK->Prop:=fun x vs H Q=>∃ l xs y,x=.ref l/\vs=[y]/\H l=some (.lst xs)/\xs.length < sizeLine/\Q .non (upd H l (.lst (xs++[y])))
theorem mt_append:MtM X "list.append" rAppend:=by
 intro pins s σ H x vs v us Q I rx rv h
 obtain ⟨l,xs,y,rfl,rfl,hH,hz,q⟩:=h
 cases rx
 obtain ⟨u,rfl,ru⟩:=rv.one
 obtain ⟨z,its,n,r,hl,e⟩:=I.lstM hH
 refine call_meets F.slot_list_append ⟨_,e,rfl⟩ F.entry_list_append (F.args_list_append_2 _ _) (PySem.list_append l its.toArray n u (by rw [List.size_toArray];omega)) ⟨e,?_⟩
 refine ⟨.non,_,I.lset (its':=its++[u]) hH e (by simp) (r.append (.cons ru .nil)) ?_,rfl,q⟩
 rw [List.length_append,List.length_singleton]
 omega
def rExtend:V->List V->Hp->VK->Prop:=fun x vs H Q=>∃ l b xs zs,x=.ref l/\vs=[.ref b]/\H l=some (.lst xs)/\H b=some (.lst zs)/\xs.length+zs.length<=sizeLine/\Q .non (upd H l (.lst (xs++zs)))
theorem mt_extend:MtM X "list.extend" rExtend:=by
 intro pins s σ H x vs v us Q I rx rv h
 obtain ⟨l,b,xs,zs,rfl,rfl,hH,hB,hz,q⟩:=h
 cases rx
 obtain ⟨u,rfl,ru⟩:=rv.one
 cases ru
 obtain ⟨z,its,n,r,hl,e⟩:=I.lstM hH
 obtain ⟨z2,its2,n2,r2,hl2,e2⟩:=I.lstM hB
 have hsz:its.toArray.size+its2.toArray.size<=sizeLine:=by rw [List.size_toArray,List.size_toArray];omega
 have hlong:¬ (!its.toArray.isEmpty && Builtin.List.listTooLong (its.toArray.size+its2.toArray.size))=true:=by
  rw [notLongL hsz,Bool.and_false]
  exact Bool.false_ne_true
 refine call_meets F.slot_list_extend ⟨_,e,rfl⟩ F.entry_list_extend (F.args_list_extend_2 _ _)
  (AutoSeq1.list_extend_list_list_0 l its.toArray n b its2.toArray n2 hlong (by rw [List.size_toArray];omega) (by omega)) ⟨e,e2,?_⟩
 refine ⟨.non,_,I.lset (its':=its++its2) hH e (by simp) (r.append r2) ?_,rfl,q⟩
 rw [List.length_append]
 omega
def rCat:R2:=fun x y H Q=>∃ l b xs zs,x=.ref l/\y=.ref b/\H l=some (.lst xs)/\H b=some (.lst zs)/\xs.length+zs.length<=sizeLine/\∀ p,H p=none->Q (.ref p) (upd H p (.lst (xs++zs)))
theorem op_cat:OpR X (binaryOp .Add) rCat:=by
 intro pins s σ H x y v u Q I rx ry h
 obtain ⟨l,b,xs,zs,rfl,rfl,hH,hB,hz,q⟩:=h
 cases rx
 cases ry
 obtain ⟨z,its,n,r,hl,e⟩:=I.lstM hH
 obtain ⟨z2,its2,n2,r2,hl2,e2⟩:=I.lstM hB
 refine PySem.P.add_list e e2 ?_ (by rw [List.size_toArray,List.size_toArray];omega)
 have ea:its.toArray++its2.toArray=(its++its2).toArray:=by simp
 rw [ea]
 exact ⟨.ref _,_,I.lnew (t':=s.toks) (r.append r2) (by rw [List.length_append];omega),rfl,q _ I.fresh⟩
def rRep:R2:=fun x y H Q=>∃ l k xs,x=.ref l/\y=.int k/\H l=some (.lst xs)/\-(2 ^ 63)<=k/\k < 2 ^ 63/\xs.length * k.toNat<=sizeLine ∧
 ∀ p,H p=none->Q (.ref p) (upd H p (.lst (List.replicate k.toNat xs).flatten))
theorem len_rep {α:Type} (xs:List α) (k:Nat):(List.replicate k xs).flatten.length=k * xs.length:=by
 induction k with
 | zero=>simp
 | succ k ih=>rw [List.replicate_succ,List.flatten_cons,List.length_append,ih,Nat.succ_mul,Nat.add_comm]
theorem op_rep:OpR X (binaryOp .Mult) rRep:=by
 intro pins s σ H x y v u Q I rx ry h
 obtain ⟨l,k,xs,rfl,rfl,hH,h1,h2,hz,q⟩:=h
 cases rx
 obtain ⟨t,rfl⟩:=ry
 obtain ⟨z,its,n,r,hl,e⟩:=I.lstM hH
 have hlen:its.toArray.size * k.toNat<=sizeLine:=by rw [List.size_toArray,<-hl];exact hz
 have hcap:¬ its.toArray.size * k.toNat > (2 ^ 63 - 1) / 8:=by
  have:(sizeLine:Nat)<=(2 ^ 63 - 1) / 8:=by decide
  omega
 have hfit:¬ (!Builtin.List.listFitsIndex k)=true:=by
  rw [fitsIndex_both h1 h2]
  exact Bool.false_ne_true
 have hlong:¬ Builtin.List.listTooLong (its.toArray.size * k.toNat)=true:=by
  rw [notLongL hlen]
  exact Bool.false_ne_true
 have hnew:List.foldl (fun x1 x2=>x1++x2) #[] (List.replicate (if its.toArray.isEmpty=true then 0 else k.toNat) its.toArray)=(List.replicate k.toNat its).flatten.toArray:=by
  have f0:∀ m:Nat,List.foldl (fun x1 x2=>x1++x2) #[] (List.replicate m its.toArray)=(List.replicate m its).flatten.toArray:=fun m=>by
   have:=foldl_rep its m []
   rw [List.nil_append] at this
   exact this
  rw [f0]
  cases its with
  | nil=>simp
  | cons a r'=>rw [if_neg (by simp)]
 refine wpAny_binaryOp_repeat_ref (T := "list") (U := "int") (by decide) ⟨_,e,rfl⟩ (fun s'=>typeIs_int s' k t) noFill_list_mul F.fills_int_mul F.slot_int_rmul repeat_list F.slot_int_index.lookup
  (call_meets F.slot_int_rmul (typeIs_int s k t) F.entry_int_rmul (F.args_int_rmul_2 _ _) (int___rmul___int_list k t l its.toArray n)
   ⟨e,rfl,⟨_,e,rfl⟩,call_meets F.slot_list_mul ⟨_,e,rfl⟩ F.entry_list_mul (F.args_list_mul_2 _ _) (AutoListH.list___mul___list_int_3 l its.toArray n k t hfit hcap hlong) ⟨e,?_⟩⟩)
 rw [hnew]
 exact ⟨.ref _,_,I.lnew (t':=s.toks) (r.rep k.toNat) (by rw [len_rep,Nat.mul_comm];exact hz),rfl,q _ I.fresh⟩
end
section
variable {prog:Program} {w:World} {A:Around} {E:Value->Shared->Prop} {s:Shared}
set_option maxRecDepth 100000 in
end
section
variable {X:Cx}
end
end L2
namespace Att
open PySem PySem.W PySem.Calls PyProof.Rows
theorem ints_of_wellAll {P:Params} {h:Heap}:∀ (ns:List Int) (vs:List Value),WellAll P h vs (ns.map WData.int)->IntsAre vs ns:=by
 intro ns
 induction ns with
 | nil=>
  intro vs w
  rw [List.map_nil] at w
  cases w
  exact .nil
 | cons n ns ih=>
  intro vs w
  rw [List.map_cons] at w
  cases w with
  | cons a b=>
   cases a
   exact .cons _ _ (ih _ b)
theorem script_of {l:OpenLaw} {n:Nat} (hn:l.most=some n) {P:Params} {h:Heap} {args:List WData} {vals:List Value}
  (hpre:l.row.toRowW.claim.pre args=true) (hwl:WellAll P h vals args) :
  ∃ a vs ns,vals=[Value.ref a]/\args=[WData.list (ns.map WData.int)]/\h.get? a=some { cls:=.type "list",data:=.seq vs.toArray }/\IntsAre vs ns/\ns.length<=n:=by
 have hsh:WShape.hasAll [] args [.list .int]=true:=(pre_splitW hpre).1
 have hc:l.pre.holds [] { args:=args }=true:=(pre_splitW hpre).2
 obtain ⟨d,r,rfl,h1,h2⟩:=hasAllW_cons hsh
 obtain rfl:=hasAllW_nil h2
 obtain ⟨xs,rfl,h3⟩:=hasW_list h1
 obtain ⟨ns,rfl⟩:=items_int h3
 have hlen:ns.length<=n:=by
  unfold OpenLaw.pre at hc
  have h4:(WTm.not (.lt (.lit (.int (n:Int))) (.len (.arg 0)))).holds [] { args:=[.list (ns.map .int)] }=true:=by
   have h4:=(holds_andW hc).1
   rw [hn] at h4
   exact h4
  have h5:=condW_of h4 (w_not (w_lt w_lit (w_len_list (w_arg rfl))))
  rw [List.length_map] at h5
  refine Nat.le_of_not_lt fun q=>?_
  have q':(n:Int) < ((ns.length:Nat):Int):=by omega
  first
   | (rw [decide_eq_true q'] at h5;exact absurd h5 (by decide))
   | (simp at h5;omega)
 cases hwl with
 | cons w1 w2=>
  cases w2
  cases w1 with
  | list ho hall=>exact ⟨_,_,ns,rfl,rfl,ho,ints_of_wellAll ns _ hall,hlen⟩
theorem post_true (l:OpenLaw) (args:List WData):l.row.toRowW.claim.post args (.bool true) args=true:=
 postW_of (r:=l.row.toRowW) (X:=(true == true))
  (show WShape.has [] (.bool true) .bool=true by first | rfl | decide | simp [WShape.has,WShape.arms,WShape.armsAll])
  (show (WTm.eq .res (.lit (.bool true))).value [] { args:=args,res:=some (.bool true),after:=args }=some (.bool (true == true)) from w_eq_bool (w_res rfl) w_lit) rfl
section
variable {prog:Program} {w:World} {A:Around} {E:Value->Shared->Prop} {s:Shared} {K:Frag}
end
end Att
namespace L2
open PySem PySem.Spec PyProof.Rows
theorem vals_ints:∀ {vs:List Value} {ns:List Int},IntsAre vs ns->Vals (ns.map V.int) vs
 | _,_,.nil=>.nil
 | _,_,.cons n t h=>.cons ⟨t,rfl⟩ (vals_ints h)
def Only (H:Hp):Prop:=∀ b,H b=none\/∃ o xs,H b=some (.frz o (.lst xs))
theorem law_call {P:Program} {w:World} {K:PySem.W.Frag} {mg mb:Str->Option Value} {CX:CXT} {k:Nat} {fa a:Addr} {fd:FuncData} {x:Str} {sp:Sp} {s₁:Shared} {vs:List Value} {ns:List Int}
  (KX:K.In s₁.heap) (hns:s₁.heap.Ns mainGlobals mg) (hb:s₁.heap.Ns builtinsNs mb) (hbb:∀ x:Str,x ≠ "__name__"->mb x=bootBuiltins x) (hlim:s₁.heap.NoLimit) (hg:s₁.gens=#[])
  (ha:s₁.heap.get? a=some { cls:=.type "list",data:=.seq vs.toArray }) (hi:IntsAre vs ns) (hl:ns.length<=sizeLine) (hr:Room k callerA)
  (F:∀ base:Heap,K.In base->base.Ns mainGlobals mg->FnOk P w K mg base CX k fa fd [x] sp) (hbind:∀ (s:Shared) (u:Value),BindsTo s fd ⟨[u],[]⟩ [(x,u)])
  (hsp:∀ H:Hp,Only H->SqL K H a (ns.map V.int)->sp [.ref a] H (fun v _=>v=.bl true) fun _ _ _=>False)
  (hCX:∀ H e s',CX [] H s₁ (fun _ _ _=>False) e s'->False) :
  codeAny (model P w) callerA (.call (.ref fa) ⟨[.ref a],[]⟩) (fun r s'=>r=.ok (.ret (.bool true))/\OldK s₁.heap s'.heap/\s'.os=s₁.os/\AllBare s'.gens) s₁:=by
 have rv:=vals_ints hi
 have lenV:=hi.length
 -- from an abstract heap in which nothing but the script may be tracked
 have core:∀ H:Hp,Only H->SqL K H a (ns.map V.int)->HOk P w H s₁.heap->(∀ b,H b ≠ none->b=a)->(H a ≠ none->K.lookup a=none) →
   codeAny (model P w) callerA (.call (.ref fa) ⟨[.ref a],[]⟩) (fun r s'=>r=.ok (.ret (.bool true))/\OldK s₁.heap s'.heap/\s'.os=s₁.os/\AllBare s'.gens) s₁:=by
  intro H hO hS hok hA hK
  have base_of:∀ {b:Addr} {o:Obj},s₁.heap.get? b=some o->H b=none->(hidT s₁.heap H).get? b=some o:=fun e n=>hidT_get e n
  have noA:∀ {b:Addr} {o:Obj} {es:Array DictEntry} {ep:Nat},s₁.heap.get? b=some o->o.data=.dict es ep->H b=none:=fun {b o es ep} e d=>by
   cases q:H b with
   | none=>rfl
   | some u=>
    have e':b=a:=hA b (by rw [q];simp)
    subst e'
    rw [ha] at e;cases e
    have d':Data.seq vs.toArray _=Data.dict es ep:=d
    cases d'
  have nsK:∀ {b:Addr} {m:Str->Option Value},s₁.heap.Ns b m->(hidT s₁.heap H).Ns b m:=fun {b m} ⟨o,es,ep,e,d,r⟩=>⟨o,es,ep,base_of e (noA e d),d,r⟩
  have hKb:K.In (hidT s₁.heap H):=fun b o e=>base_of (KX b o e) (by
   cases q:H b with
   | none=>rfl
   | some u=>
    have e':b=a:=hA b (by rw [q];simp)
    subst e'
    rw [hK (by rw [q];simp)] at e;cases e)
  have hM:Mod K mg (hidT s₁.heap H):=⟨hKb,nsK hns,⟨mb,nsK hb,hbb⟩,let ⟨mc,h1,h2⟩:=hlim;⟨mc,nsK h1,h2⟩⟩
  have e0:Env0 P w K mg (hidT s₁.heap H) callerA [] s₁ H:=⟨rfl,hM,fun b o e=>of_hidT e,Nat.le_of_eq (hidT_size _ _),trivial,fun b hb=>absurd (show b ∈ ([]:List Addr) from hb) (by simp),hok,.of_eq hg⟩
  refine codeAny_mono ((F _ hKb (nsK hns)).run callerA [] s₁ H ⟨[.ref a],[]⟩ [.ref a] [.ref a] _ _ hr e0 (hbind s₁ (.ref a)) (.cons rfl .nil) (hsp H hO hS)) fun r s' h=>?_
  cases r with
  | error e=>exact (hCX H e s' h).elim
  | ok fl=>
   cases fl with
   | next=>exact False.elim h
   | brk=>exact False.elim h
   | cont=>exact False.elim h
   | ret u=>
    obtain ⟨v,H',os,bare,un,hok',r',q⟩:=h
    have q':v=.bl true:=q
    subst q'
    obtain rfl:u=Value.bool true:=r'
    refine ⟨rfl,OldK.of_keep fun b o e=>?_,os,bare⟩
    cases q:H b with
    | none=>exact un.keep b o e q (by intro z;exact absurd (show b ∈ ([]:List Addr) from z) (by simp)) (by simp)
    | some u=>
     rcases hO b with z | ⟨ob,xs,z⟩
     ·rw [q] at z;cases z
     ·have z2:=un.frzs b ob _ z
      obtain ⟨e1,_⟩:=hok b _ z
      obtain ⟨e2,_⟩:=hok' b _ z2
      rw [e] at e1;cases e1
      exact e2
 cases hk:K.lookup a with
 | some o=>
  -- the script is one of the module's own objects
  have e:=KX a o hk
  rw [ha] at e
  cases e
  refine core (fun _=>none) (fun _=>.inl rfl) (.inr ⟨_,vs.toArray,_,hk,rfl,rfl,rfl,by rw [List.size_toArray,lenV];exact hl,by simpa using rv⟩) (fun b u z=>by have z':(none:Option HO)=some u:=z;cases z') (fun b z=>absurd rfl z) fun z=>absurd rfl z
 | none=>
  refine core (fun b=>if b=a then some (.frz { cls:=.type "list",data:=.seq vs.toArray } (.lst (ns.map V.int))) else none) (fun b=>?_) (.inl (.inr ⟨{ cls:=.type "list",data:=.seq vs.toArray },if_pos rfl⟩)) (fun b u z=>?_) (fun b z=>?_) fun _=>hk
  ·by_cases hb:b=a
   ·exact .inr ⟨_,_,if_pos hb⟩
   ·exact .inl (if_neg hb)
  ·by_cases hb:b=a
   ·have z':=(if_pos hb).symm.trans z
    cases z'
    subst hb
    exact ⟨ha,by rw [List.length_map];exact hl,vs,_,rv,ha⟩
   ·have z':=(if_neg hb).symm.trans z
    cases z'
  ·by_cases hb:b=a
   ·exact hb
   ·exact absurd (if_neg hb) z
end L2
namespace L2
open PySem PySem.Spec PyProof.Rows
end L2
/- THE LAST THEOREM (shape;LID,My.* are yours):
   My.Adr: a structure of the addresses that your layer names (classes,functions);My.Txt K t: a structure (Prop) of the equations over K;
   My.txt_mk:{K} {implicit addresses ..} (e1:nsIn K mainGlobals "law" = some (some (.ref f))) (e2:K.lookup f=some ⟨oc,od,.func (fnOf "law" "law" params body scope dV kV doc pm an cdv ct),sl⟩) (e3:codeIn K cdv "law" = true) ..:∃ t,My.Txt K t
set_option maxRecDepth 100000 in
set_option maxHeartbeats 0 in
theorem PySem.Challenge.cw_LID_holds : PySem.Challenge.rw_LID.Holds := by
 w_on;o_law;k_head;(case hw=>w_witness2)
 k_fill
 refine L2.walk_of (l:=PySem.Challenge.rw_LID) (n:=63) (k:=40) (x := "script") (CX:=fun w=>..) (sp:=fun _=>My.sp_law) rfl (by decide) rfl ⟨rfl,by decide,by decide⟩ (fun w h Y=>PySem.W.kIn_of Y) ?F ?S ?C
 case F=>
  intro w mg fa h KX G hmg
  have T:∃ t,My.Txt (L2.KOf KX) t:=by
   dsimp only [L2.KOf]                          -- K must stand as «<heap const> w.params» for k_is
   refine' My.txt_mk ?e1 ?e2 ?e3 ..
   (case e1=>PySem.W.k_is)                    -- in the order: a name -> its address -> its object -> its parts
   (case e2=>PySem.W.k_is)
   ..
  obtain ⟨t,T⟩:=T
  have e0:=hmg.symm.trans (PySem.W.mg_of KX G T.law)
  cases e0                                       -- fa is the law's own address
  exact ⟨_,fun s u=>.of_eq rfl,fun base kb nb=>My.law_fn T kb nb⟩     -- if «.of_eq rfl» comes too early: refine' ⟨_,?b,fun base kb nb=>My.law_fn T kb nb⟩;exact fun s u=>.of_eq rfl
 case S=>exact fun w H a ns hl hO hS=>..
 case C=>exact ..
(the tactic k_is has no namespace: write k_is) -/
namespace L2
open PySem PySem.Spec PyProof.Rows
abbrev CX0:CXT:=fun _ _ _ _ _ _=>False
abbrev E0:XK:=fun _ _ _=>False
theorem pass0 {X:Cx}:Passes CX0 X E0:=fun _ _ _ _ _ _ _ h=>h.elim
structure Fun (K:PySem.W.Frag) (x qual:Str) (st:Stmt) (f:Addr) (fd:FuncData):Prop where
 ex:∃ (oc:Value) (od:Option Addr) (kV doc pm:Value) (an:Option Addr) (cdv ct:Value) (osl:Array (Option Value)),
  fd=PySem.W.fnOf x qual (defArgs st) (defBody st) (defScope st) .none kV doc pm an cdv ct/\K.lookup f=some ⟨oc,od,.func fd,osl⟩/\PySem.W.codeIn K cdv qual=true
 kp:PySem.W.keepIn K (.ref f)=true
section
variable {P:Program} {w:World} {K:PySem.W.Frag} {mg:Str->Option Value} {base:Heap}
theorem Fun.ok {x qual:Str} {st:Stmt} {f:Addr} {fd:FuncData} {N ps:List Str} {k:Nat} {sp:Sp} (F:Fun K x qual st f fd) (S:FnScope N ps (defScope st)) (len:∀ vs H Q E,sp vs H Q E->vs.length=ps.length)
  (hbody:∀ (cdv:Value) (A:Around) (outer:List Env) (s:Shared) (H:Hp) (vs:List V) (Q:VK) (E:XK),Room k (A.deeper (envOfC qual (defScope st) s.heap.objs.size f cdv))->sp vs H Q E →
   ∃ t,PSs (cxOf CX0 P w K mg base N qual (defScope st) f cdv A outer s H E).nox (defBody st) t/\t { nx:=fun _ H'=>Q .non H',rt:=Q } (start N vs) H):FnOk P w K mg base CX0 (k+1) f fd ps sp:=by
 obtain ⟨oc,od,kV,doc,pm,an,cdv,ct,osl,rfl,lk,hcd⟩:=F.ex
 refine fn_of lk hcd S len fun A outer s H vs Q E hr hsp=>?_
 obtain ⟨t,h,q⟩:=hbody cdv A outer s H vs Q E hr hsp
 exact ⟨t,h.nox,q⟩
theorem Fun.binds {x qual:Str} {st:Stmt} {f:Addr} {fd:FuncData} {ps:List Str} (F:Fun K x qual st f fd)
  (h:∀ (kV doc pm:Value) (an:Option Addr) (cdv ct:Value) (us:List Value),us.length=ps.length->bindArgs (PySem.W.fnOf x qual (defArgs st) (defBody st) (defScope st) .none kV doc pm an cdv ct) ⟨us,[]⟩=pure (ps.zip us)):Binds K fd ps []:=by
 obtain ⟨oc,od,kV,doc,pm,an,cdv,ct,osl,rfl,lk,hcd⟩:=F.ex
 exact .all (h kV doc pm an cdv ct)
theorem fun_mk {x qual:Str} {st:Stmt} {f:Addr} {oc:Value} {od an:Option Addr} {osl:Array (Option Value)} {kV doc pm cdv ct:Value} (l:K.lookup f=some ⟨oc,od,.func (PySem.W.fnOf x qual (defArgs st) (defBody st) (defScope st) .none kV doc pm an cdv ct),osl⟩)
  (c:PySem.W.codeIn K cdv qual=true) (k:PySem.W.keepIn K (.ref f)=true):Fun K x qual st f (PySem.W.fnOf x qual (defArgs st) (defBody st) (defScope st) .none kV doc pm an cdv ct):=⟨⟨oc,od,kV,doc,pm,an,cdv,ct,osl,rfl,l,c⟩,k⟩
end
section
variable {X:Cx}
theorem pv (i:Nat) {x:Str} {pos:Pos} (hN:X.N[i]?=some x:=by rfl) (hv:Vis X.env.scope x:=by first | exact Or.inl rfl | exact Or.inr (Or.inl rfl) | exact Or.inr (Or.inr rfl)) (hd:(x == ("__debug__" : Str))=false:=by decide)
  (hcd:(x == ("__classdict__" : Str))=false:=by decide):PE X (.Name x pos) (tVar i):=pe_var hN hv hd hcd
end
theorem iteF {A B:Prop} (h:B):if false=true then A else B:=by
 rw [if_neg Bool.false_ne_true]
 exact h
theorem iteT {A B:Prop} (h:A):if true=true then A else B:=by
 rw [if_pos rfl]
 exact h
theorem ite2 {c A B:Prop} [Decidable c] (h1:c->A) (h2:¬ c->B):if c then A else B:=by
 by_cases h:c
 ·rw [if_pos h]
  exact h1 h
 ·rw [if_neg h]
  exact h2 h
theorem iteNS {c A B:Prop} [Decidable c] (hc:c) (h:B):if (!decide c)=true then A else B:=by
 rw [decide_eq_true hc]
 exact iteF h
def Same (H H':Hp):Prop:=∀ b o,H b=some o->H' b=some o
theorem Same.refl (H:Hp):Same H H:=fun _ _ h=>h
theorem Same.trans {H H1 H2:Hp} (a:Same H H1) (b:Same H1 H2):Same H H2:=fun c o h=>b c o (a c o h)
theorem Same.free {H H':Hp} (e:Same H H') {l:Addr} (h:H' l=Option.none):H l=Option.none:=by
 cases q:H l with
 | none=>rfl
 | some o=>
  rw [e l o q] at h
  cases h
theorem Same.seq {K:PySem.W.Frag} {H H':Hp} {a:Addr} {xs:List V} (e:Same H H') (h:SqL K H a xs):SqL K H' a xs:=by
 rcases h with (h | ⟨o,h⟩) | h
 ·exact .inl (.inl (e _ _ h))
 ·exact .inl (.inr ⟨o,e _ _ h⟩)
 ·exact .inr h
end L2
set_option maxHeartbeats 4000000
namespace L3
open PySem PySem.Spec PyProof.Rows L2
theorem same_upd {H:Hp} {p:Addr} {o:HO} (h:H p=none):Same H (upd H p o):=fun b u e=>by
 rw [upd_ne (ne_of_none e h)];exact e
theorem same_to {H H':Hp} {p:Addr} {o:HO} (s:Same H H') (h:H p=none):Same H (upd H' p o):=fun b u e=>by
 rw [upd_ne (ne_of_none e h)];exact s b u e
def newO:HO->Prop
 | .lst _=>True
 | .tup _=>True
 | _=>False
def Rst (H H':Hp) (P:Hp->Prop):Prop:=∃ Hr,Same H Hr/\Same Hr H'/\(∀ a o,Hr a=some o->H a=some o\/newO o)/\P Hr
theorem Rst.same {H H':Hp} {P:Hp->Prop} (s:Same H H') (p:P H):Rst H H' P:=⟨H,Same.refl H,s,fun _ _ e=>.inl e,p⟩
theorem Rst.one {H H':Hp} {P:Hp->Prop} {p:Addr} {o:HO} (s:Same H H') (n:H p=none) (e:H' p=some o) (no:newO o) (q:P (upd H p o)):Rst H H' P:=
 ⟨upd H p o,same_upd n,fun b u z=>by
  by_cases hb:b=p
  ·subst hb;rw [upd_same] at z;cases z;exact e
  ·rw [upd_ne hb] at z;exact s b u z,fun b u z=>by
  by_cases hb:b=p
  ·subst hb;rw [upd_same] at z;cases z;exact .inr no
  ·rw [upd_ne hb] at z;exact .inl z,q⟩
theorem Rst.more {H H1 H':Hp} {P:Hp->Prop} (s:Same H H1) (n:∀ a o,H1 a=some o->H a=some o\/newO o) (r:Rst H1 H' P):Rst H H' P:=by
 obtain ⟨Hr,s1,s2,hn,q⟩:=r
 exact ⟨Hr,s.trans s1,s2,fun a o e=>by
  rcases hn a o e with z | z
  ·exact n a o z
  ·exact .inr z,q⟩
section
variable {P:Program} {w:World} {H Hr H':Hp} {h h':Heap}
theorem objOk_rst {a:Addr} {o:HO} (s1:Same H Hr) (x0:ObjOk P w H h a o) (x:ObjOk P w H' h' a o):ObjOk P w Hr h' a o:=by
 induction o with
 | ins C dx fs=>exact ⟨s1 _ _ x0.1,x.2⟩
 | frz ob u ih=>exact ⟨x.1,ih x0.2 x.2⟩
 | lst xs=>exact x
 | tup xs=>exact x
 | dK kvs=>exact x
 | dT kvs=>exact x
 | set S n=>exact x
 | own y=>exact x
 | xd fs=>exact x
 | rng lo hi=>exact x
 | tbl ps=>exact x
 | met f y=>exact x
 | ext φ=>exact x
theorem hok_rst (e0:HOk P w H h) (k:HOk P w H' h') (s1:Same H Hr) (s2:Same Hr H') (hn:∀ a o,Hr a=some o->H a=some o\/newO o):HOk P w Hr h':=fun a o e=>by
 have x:=k a o (s2 a o e)
 rcases hn a o e with z | z
 ·exact objOk_rst s1 (e0 a o z) x
 ·cases o with
  | lst xs=>exact x
  | tup xs=>exact x
  | _=>exact False.elim z
theorem un_rst {fs ex:List Addr} (u:Un fs ex H H' h h') (s1:Same H Hr) (s2:Same Hr H'):Un fs ex H Hr h h' where
 keep:=u.keep
 slot:=u.slot
 free:=fun b o e n hx=>s2.free (u.free b o e n hx)
 there:=u.there
 tups:=fun b xs e=>s1 b _ e
 frzs:=fun b o x e=>s1 b _ e
 tbls:=fun b ps e=>⟨#[],by rw [s1 b _ e];simp⟩
end
section
variable {P:Program} {w:World} {K:PySem.W.Frag} {mg:Str->Option Value} {base:Heap} {CX:CXT} {k:Nat} {f:Addr} {fd:FuncData} {ps:List Str} {sp:Sp}
def SpR (sp:Sp):Sp:=fun vs H Q2 E=>∃ Q:VK,(∀ v H',Rst H H' (Q v)->Q2 v H')/\sp vs H Q E
theorem FnOk.rst (F:FnOk P w K mg base CX k f fd ps (SpR sp)):FnOk P w K mg base CX k f fd ps sp:=
 ⟨fun vs H Q E h=>F.len vs H (fun v H'=>Rst H H' (Q v)) E ⟨Q,fun _ _ z=>z,h⟩,fun A outer s H args us vs Q E hr he hb hv hs=>
  codeAny_mono (F.run A outer s H args us vs (fun v H'=>Rst H H' (Q v)) E hr he hb hv ⟨Q,fun _ _ z=>z,hs⟩) fun r s' hq=>by
   cases r with
   | error e=>exact hq
   | ok fl=>
    cases fl with
    | ret u=>
     obtain ⟨v,H',e1,e2,e3,e4,e5,Hr,s1,s2,hn,q⟩:=hq
     exact ⟨v,Hr,e1,e2,un_rst e3 s1 s2,hok_rst he.hok e4 s1 s2 hn,e5,q⟩
    | next=>exact False.elim hq
    | brk=>exact False.elim hq
    | cont=>exact False.elim hq⟩
theorem Fun.okR {x qual:Str} {st:Stmt} {f:Addr} {fd:FuncData} {N ps:List Str} {k:Nat} {sp:Sp} (F:Fun K x qual st f fd) (S:FnScope N ps (defScope st)) (len:∀ vs H Q E,sp vs H Q E->vs.length=ps.length)
  (hbody:∀ (cdv:Value) (A:Around) (outer:List Env) (s:Shared) (H:Hp) (vs:List V) (Q Q2:VK) (E:XK),Room k (A.deeper (envOfC qual (defScope st) s.heap.objs.size f cdv))->sp vs H Q E->(∀ v H',Rst H H' (Q v)->Q2 v H') →
   ∃ t,PSs (cxOf CX0 P w K mg base N qual (defScope st) f cdv A outer s H E).nox (defBody st) t/\t { nx:=fun _ H'=>Q2 .non H',rt:=Q2 } (start N vs) H):FnOk P w K mg base CX0 (k+1) f fd ps sp:=
 FnOk.rst (F.ok S (fun vs H Q2 E ⟨Q,_,h⟩=>len vs H Q E h) fun cdv A outer s H vs Q2 E hr ⟨Q,hq,h⟩=>hbody cdv A outer s H vs Q Q2 E hr h hq)
end
end L3
namespace L3
open PySem PySem.Spec PyProof.Rows L2
abbrev NE:Value->Shared->Prop:=fun _ _=>False
def PTs (X:Cx) (cs:List Expr) (t:TT):Prop:=
 ∀ (pins:List (Addr × Obj)) (s:Shared) (σ:L2.St) (H:Hp) (Q:Bool->Hp->Prop),Inv X pins σ H s->t σ H Q →
  wpAny (model X.prog X.w) X.A (forIn cs true fun c r=>if r=true then do let ok <-isTrue c X.env (eval c X.env);pure (ForInStep.yield ok) else pure (ForInStep.yield r)) (TP X pins σ Q) X.xe s
def tYes:TT:=fun _ H Q=>Q true H
theorem pts_nil {X:Cx}:PTs X [] tYes:=fun _ _ _ H _ I h=>wpAny_tests_nil ⟨H,I,h⟩
theorem pts_one {X:Cx} {c:Expr} {t:TT} (h:PT X c t):PTs X [c] t:=fun pins s σ H Q I q=>wpAny_tests_one (h pins s σ H Q I q)
section
variable {prog:Program} {w:World} {A:Around} {R:Result->Shared->Prop} {s:Shared}
theorem compLoop_any {elt target iter:Expr} {ifs:List Expr} {scope:Scope} {pos:Pos} {it acc:Value} {env:Env} (I:Nat->Shared->Prop)
  (turn:∀ n s,I n s->wpAny (model prog w) A (pyNext it) (fun r s₁=>match r with
   | none=>R (.ok .next) s₁
   | some v=>wpAny (model prog w) A (letOwnedTupleGo target it v) (fun _ s₀=>wpAny (model prog w) A (assign target env v) (fun _ s₂=>
     wpAny (model prog w) A (forIn ifs true fun c r=>if r=true then do let ok <-isTrue c env (eval c env);pure (ForInStep.yield ok) else pure (ForInStep.yield r)) (fun ok s₃=>
      if ok=true then wpAny (model prog w) A (eval elt env) (fun x s₄=>
       wpAny (model prog w) A (call (.builtin "list.append") [acc,x]) (fun _ s₅=>∃ m,m < n/\I m s₅) NE s₄) NE s₃
      else ∃ m,m < n/\I m s₃) NE s₂) NE s₀) NE s₁) NE s)
  (n:Nat) (h:I n s) :
  codeAny (model prog w) A (.compLoop (.ListComp elt [⟨target,iter,ifs,0⟩] scope pos) 0 it acc env) R s:=by
 refine codeAny_loop rfl I (fun n s hI=>?_) n h
 show wpAny _ A ((compTurn (.ListComp elt [⟨target,iter,ifs,0⟩] scope pos) 0 it acc env).onRaise (fun x=>do noteFrame x env;theTreesLotGoes x)) _ _ s
 refine wpAny_noted (wpAny_mono (E:=NE) ?_ (fun _ _ q=>q) fun _ _ f=>f.elim)
 rw [compTurn_list]
 refine wpAny_bind (wpAny_standAt (wpAny_bind (wpAny_mono (turn n s hI) (fun r s₁ h₁=>?_) fun _ _ h'=>h')))
 cases r with
 | none=>exact wpAny_pure h₁
 | some v=>
  refine wpAny_bind (wpAny_mono h₁ (fun _ s₀ h₀=>?_) fun _ _ h'=>h')
  refine wpAny_bind (wpAny_mono h₀ (fun _ s₂ h₂=>wpAny_bind (wpAny_mono h₂ (fun ok s₃ h₃=>?_) fun _ _ h'=>h')) fun _ _ h'=>h')
  cases ok with
  | false=>exact wpAny_pure ⟨rfl,h₃⟩
  | true=>
   exact wpAny_bind (wpAny_bind (wpAny_mono h₃ (fun x s₄ h₄=>wpAny_bind (wpAny_mono h₄ (fun _ s₅ h₅=>wpAny_pure (wpAny_pure ⟨rfl,h₅⟩)) fun _ _ h'=>h')) fun _ _ h'=>h'))
end
theorem closure_go {env:Env}:∀ (names:List (Str × NameKind)) (cs:List (Str × Addr)),(∀ y ∈ names,y.2=.free->∃ c,env.cells.lookup y.1=some c)->(∀ x c,cs.lookup x=some c->env.cells.lookup x=some c) →
  ∃ cl,(forIn names cs (fun (y:Str × NameKind) r=>if (y.2 == .free)=true then do let a <-cellOf env y.1;pure (ForInStep.yield ((y.1,a) :: r)) else pure (ForInStep.yield r)):Sem (List (Str × Addr)))=pure cl ∧
   (∀ x c,cl.lookup x=some c->env.cells.lookup x=some c)/\(∀ x,(∃ c,cs.lookup x=some c)->∃ c,cl.lookup x=some c)/\(∀ y ∈ names,y.2=.free->∃ c,cl.lookup y.1=some c)
 | [],cs,_,h=>⟨cs,rfl,h,fun _ z=>z,fun _ z=>nomatch z⟩
 | y :: r,cs,hn,h=>by
  by_cases hy:y.2=.free
  ·obtain ⟨c,hc⟩:=hn y List.mem_cons_self hy
   have hc':cellOf env y.1=pure c:=by unfold cellOf;rw [hc]
   have h2:∀ x d,((y.1,c) :: cs).lookup x=some d->env.cells.lookup x=some d:=fun x d e=>by
    rw [List.lookup_cons] at e
    by_cases hx:x=y.1
    ·subst hx
     rw [show (y.1 == y.1)=true from beq_self_eq_true _] at e
     cases e
     exact hc
    ·rw [show (x == y.1)=false from beq_eq_false_iff_ne.mpr hx] at e
     exact h x d e
   obtain ⟨cl,e1,e2,e3,e4⟩:=closure_go r ((y.1,c) :: cs) (fun z hz=>hn z (List.mem_cons_of_mem _ hz)) h2
   refine ⟨cl,?_,e2,fun x hx=>e3 x ?_,fun z hz hf=>?_⟩
   ·rw [List.forIn_cons,hy,if_pos (by decide),hc']
    exact e1
   ·obtain ⟨d,hd⟩:=hx
    rw [List.lookup_cons]
    by_cases hx:x=y.1
    ·exact ⟨c,by rw [show (x == y.1)=true from beq_iff_eq.mpr hx]⟩
    ·exact ⟨d,by rw [show (x == y.1)=false from beq_eq_false_iff_ne.mpr hx];exact hd⟩
   ·rcases List.mem_cons.mp hz with rfl | hz
    ·exact e3 z.1 ⟨c,by rw [List.lookup_cons,show (z.1 == z.1)=true from beq_self_eq_true _]⟩
    ·exact e4 z hz hf
  ·obtain ⟨cl,e1,e2,e3,e4⟩:=closure_go r cs (fun z hz=>hn z (List.mem_cons_of_mem _ hz)) h
   refine ⟨cl,?_,e2,e3,fun z hz hf=>?_⟩
   ·rw [List.forIn_cons,if_neg (by intro q;exact hy (beq_iff_eq.mp q))]
    exact e1
   ·rcases List.mem_cons.mp hz with rfl | hz
    ·exact absurd hf hy
    ·exact e4 z hz hf
theorem closure_ok {scope:Scope} {env:Env} (hn:∀ y ∈ scope.names,y.2=.free->∃ c,env.cells.lookup y.1=some c) :
  ∃ cl,closureFor scope env=pure cl/\(∀ x c,cl.lookup x=some c->env.cells.lookup x=some c)/\(∀ y ∈ scope.names,y.2=.free->∃ c,cl.lookup y.1=some c):=by
 obtain ⟨cl,e1,e2,_,e4⟩:=closure_go (env:=env) scope.names [] hn (fun x c e=>by rw [List.lookup_nil] at e;cases e)
 refine ⟨cl,?_,e2,e4⟩
 unfold closureFor
 exact (congrArg (· >>= pure) e1)
theorem relabel_back {env:Env} {x:Str}:∀ {names:List (Str × NameKind)},(∀ y ∈ names,y.2 ≠ .cell) →
  ((names.map fun (n,k)=>if (k == NameKind.free && env.scope.kind == .function && env.kindOf n == some .cell) then (n,NameKind.cell) else (n,k)).lookup x=some .cell ∨
   (names.map fun (n,k)=>if (k == NameKind.free && env.scope.kind == .function && env.kindOf n == some .cell) then (n,NameKind.cell) else (n,k)).lookup x=some .free)->names.lookup x=some .free
 | [],_,h=>by rcases h with h | h <;> (rw [List.map_nil,List.lookup_nil] at h;cases h)
 | (n,k) :: r,hc,h=>by
  have ih:=relabel_back (env:=env) (x:=x) (names:=r) fun y hy=>hc y (List.mem_cons_of_mem _ hy)
  have hk:k ≠ .cell:=hc (n,k) List.mem_cons_self
  rw [List.map_cons] at h
  rw [List.lookup_cons]
  cases hx:x == n with
  | true=>
   dsimp only
   by_cases hq:(k == NameKind.free && env.scope.kind == .function && env.kindOf n == some .cell)=true
   ·rw [Bool.and_eq_true,Bool.and_eq_true] at hq
    rw [beq_iff_eq.mp hq.1.1]
   ·dsimp only at h
    rw [if_neg hq] at h
    rw [List.lookup_cons,hx] at h
    dsimp only at h
    rcases h with h | h
    ·exact absurd (Option.some.inj h) hk
    ·exact h
  | false=>
   dsimp only
   refine ih ?_
   dsimp only at h
   by_cases hq:(k == NameKind.free && env.scope.kind == .function && env.kindOf n == some .cell)=true
   ·rw [if_pos hq,List.lookup_cons,hx] at h
    exact h
   ·rw [if_neg hq,List.lookup_cons,hx] at h
    exact h
theorem mem_lookup {x:Str} {k:NameKind} {l:List (Str × NameKind)} (h:l.lookup x=some k):(x,k) ∈ l:=PySem.mem_of_lookup h
def comp (X:Cx) (Nc:List Str) (scope:Scope) (cl:List (Str × Addr)) (C:Addr) (s:Shared) (H:Hp) (fp:List Addr):Cx:=
 { X with N:=Nc,s₀:=s,H₀:=H,env:=compEnvC scope cl C X.env,outer:=X.stack,stack:=X.stack,ex:=fp,fn:=fun _=>false,pn:=[],xe:=fun _ _=>False }
def MapOk (X:Cx) (scope:Scope):List Str->List (Option Nat)->Prop
 | [],[]=>True
 | _ :: N,none :: m=>MapOk X scope N m
 | x :: N,some i :: m=>(X.N[i]?=some x/\(X.env.scope.names.lookup x=some .cell\/X.env.scope.names.lookup x=some .free)/\scope.names.lookup x=some .free)/\MapOk X scope N m
 | _,_=>False
theorem MapOk.len {X:Cx} {scope:Scope}:∀ {N:List Str} {m:List (Option Nat)},MapOk X scope N m->m.length=N.length
 | [],[],_=>rfl
 | _ :: N,none :: m,h=>congrArg (·+1) (MapOk.len (N:=N) (m:=m) h)
 | _ :: N,some _ :: m,h=>congrArg (·+1) (MapOk.len (N:=N) (m:=m) h.2)
 | [],_ :: _,h=>h.elim
 | _ :: _,[],h=>h.elim
theorem MapOk.at {X:Cx} {scope:Scope} {x:Str} {i:Nat}:∀ {N:List Str} {m:List (Option Nat)} {j:Nat},MapOk X scope N m->m[j]?=some (some i)->N[j]?=some x →
  X.N[i]?=some x/\(X.env.scope.names.lookup x=some .cell\/X.env.scope.names.lookup x=some .free)/\scope.names.lookup x=some .free
 | [],[],j,_,h,_=>by simp at h
 | _ :: N,none :: m,0,_,h,_=>by simp at h
 | _ :: N,none :: m,j+1,k,h,e=>MapOk.at (N:=N) (m:=m) (j:=j) k (by simpa using h) (by simpa using e)
 | y :: N,some i' :: m,0,k,h,e=>by
  simp at h e
  subst h;subst e
  exact k.1
 | _ :: N,some _ :: m,j+1,k,h,e=>MapOk.at (N:=N) (m:=m) (j:=j) k.2 (by simpa using h) (by simpa using e)
 | [],_ :: _,_,h,_,_=>h.elim
 | _ :: _,[],_,h,_,_=>h.elim
def mapS (m:List (Option Nat)) (σ:L2.St):L2.St:=m.map fun o=>o.bind fun i=>(σ[i]?).bind id
structure CompOk (X:Cx) (scope:Scope) (Nc:List Str) (mp:List (Option Nat)):Prop where
 kind:scope.kind=.function
 noc:∀ y ∈ scope.names,y.2 ≠ .cell
 loc:∀ y ∈ scope.names,y.2=.local->scope.names.lookup y.1=some .local
 fre:∀ y ∈ scope.names,y.2=.free->X.env.kindOf y.1=some .cell\/X.env.kindOf y.1=some .free
 map:MapOk X scope Nc mp
section
variable {X:Cx} {pins:List (Addr × Obj)} {σ:L2.St} {H:Hp} {s:Shared} {scope:Scope} {Nc:List Str} {mp:List (Option Nat)} {cl:List (Str × Addr)} {C:Addr} {fp:List Addr}
theorem comp_ok (I:Inv X pins σ H s) (S:CompOk X scope Nc mp) (h1:∀ x c,cl.lookup x=some c->X.env.cells.lookup x=some c) (h2:∀ y ∈ scope.names,y.2=.free->∃ c,cl.lookup y.1=some c)
  (hC:s.heap.objs.size<=C) (hf:∀ b ∈ fp,FpOk X pins H b) (ho:∀ b ∈ fp,b < s.heap.objs.size):(comp X Nc scope cl C s H fp).Ok where
 mod:=I.ok.mod
 kind:=S.kind
 glob:=I.ok.glob
 blt:=I.ok.blt
 above:=hC
 inj:=fun x y c e e'=>I.ok.inj x y c (h1 x c e) (h1 y c e')
 has:=fun x hx=>by
  have q:scope.names.lookup x=some .free:=relabel_back (env:=X.env) S.noc hx
  exact h2 (x,.free) (mem_lookup q) rfl
 cab:=fun x c hx=>absurd (show false=true from hx) Bool.false_ne_true
 hd:=I.ok.hd
 frames:=I.ok.frames
 stk:=.inl rfl
 exf:=fun b hb=>⟨fun z=>absurd (Nat.lt_of_lt_of_le (ho b hb) hC) (by rw [z];exact Nat.lt_irrefl _),fun x c e=>(hf b hb).2.2.2.2.1 x c (h1 x c e)⟩
 bs:=I.bs
 bsz:=Nat.le_trans I.ok.bsz I.sz
 noex:=fun b o e hb=>by
  rcases (hf b hb).2.2.2.1 with z | z
  ·exact I.ok.noex b o e z
  ·exact absurd (Nat.lt_of_lt_of_le (Heap.lt_size e) (Nat.le_trans I.ok.bsz z)) (Nat.lt_irrefl _)
 exfs:=fun b hb z=>by
  rcases List.mem_cons.mp (I.stkSub b z) with e | e
  ·exact (hf b hb).2.1 e
  ·exact (hf b hb).2.2.1 e
 funs:=I.stack
 frf:=I.stkFree
theorem comp_inv {h':Heap} {tk:Nat} {D:Addr} {oD:Obj} (I:Inv X pins σ H s) (S:CompOk X scope Nc mp) (h1:∀ x c,cl.lookup x=some c->X.env.cells.lookup x=some c) (h2:∀ y ∈ scope.names,y.2=.free->∃ c,cl.lookup y.1=some c)
  (hC:s.heap.objs.size<=C) (hf:∀ b ∈ fp,FpOk X pins H b) (ho:∀ b ∈ fp,b < s.heap.objs.size) (kp:∀ b o,s.heap.get? b=some o->h'.get? b=some o) {m:Str->Option Value} (hn:h'.Ns C m)
  (hD:s.heap.objs.size<=D) (hDC:D ≠ C) (eD:h'.get? D=some oD) (dD:∀ v,oD.data ≠ .cell v):Inv (comp X Nc scope cl C s H fp) [(D,oD)] (mapS mp σ) H { s with heap:=h',toks:=tk } where
 ok:=comp_ok I S h1 h2 hC hf ho
 os:=rfl
 bare:=I.bare
 base:=Un.kept kp
 loc:=by
  refine ⟨m,hn,fun j x v e1 e2 _=>?_⟩
  have hj:(mapS mp σ)[j]?=(mp[j]?).map fun o=>o.bind fun i=>(σ[i]?).bind id:=by unfold mapS;rw [List.getElem?_map]
  rw [hj] at e2
  cases e3:mp[j]? with
  | none=>rw [e3] at e2;cases e2
  | some o=>
   rw [e3] at e2
   cases o with
   | none=>cases e2
   | some i=>
    obtain ⟨k1,k2,k3⟩:=S.map.at e3 e1
    have e4:(σ[i]?).bind id=some v:=Option.some.inj e2
    have e5:σ[i]?=some (some v):=by
     cases q:σ[i]? with
     | none=>rw [q] at e4;cases e4
     | some z=>rw [q] at e4;exact congrArg some e4
    obtain ⟨m0,_,hl⟩:=I.loc
    obtain ⟨u,r,l⟩:=hl i x v k1 e5 (.inr k2)
    refine ⟨u,r,.inr ⟨?_,?_⟩⟩
    ·show (relabel scope X.env).names.lookup x=some .cell\/(relabel scope X.env).names.lookup x=some .free
     have go:∀ {names:List (Str × NameKind)},names.lookup x=some .free →
       ((names.map fun (n,k)=>if (k == NameKind.free && X.env.scope.kind == .function && X.env.kindOf n == some .cell) then (n,NameKind.cell) else (n,k)).lookup x=some .cell ∨
        (names.map fun (n,k)=>if (k == NameKind.free && X.env.scope.kind == .function && X.env.kindOf n == some .cell) then (n,NameKind.cell) else (n,k)).lookup x=some .free):=by
      intro names
      induction names with
      | nil=>intro q;rw [List.lookup_nil] at q;cases q
      | cons y r ih=>
       obtain ⟨n,k⟩:=y
       intro q
       rw [List.lookup_cons] at q
       rw [List.map_cons]
       dsimp only
       cases hx:x == n with
       | true=>
        rw [hx] at q
        cases q
        by_cases hq:(NameKind.free == NameKind.free && X.env.scope.kind == .function && X.env.kindOf n == some .cell)=true
        ·rw [if_pos hq,List.lookup_cons,hx];exact .inl rfl
        ·rw [if_neg hq,List.lookup_cons,hx];exact .inr rfl
       | false=>
        rw [hx] at q
        by_cases hq:(k == NameKind.free && X.env.scope.kind == .function && X.env.kindOf n == some .cell)=true
        ·rw [if_pos hq,List.lookup_cons,hx];exact ih q
        ·rw [if_neg hq,List.lookup_cons,hx];exact ih q
     exact go k3
    ·obtain ⟨c,hc⟩:=h2 (x,.free) (mem_lookup k3) rfl
     refine ⟨c,hc,?_⟩
     rcases l with ⟨lk,_⟩ | ⟨_,c',hc',oc,hoc,hd⟩
     ·have lk':X.env.scope.names.lookup x=some .local:=lk
      rcases k2 with k2 | k2 <;> (rw [lk'] at k2;cases k2)
     ·rw [h1 x c hc] at hc';cases hc'
      exact ⟨oc,kp _ _ hoc,hd⟩
 cell:=fun x c e=>by
  obtain ⟨v,o,ho',hd⟩:=I.cell x c (h1 x c e)
  exact ⟨v,o,kp _ _ ho',hd⟩
 free:=I.hok.fresh hC
 freeC:=fun x c e=>I.freeC x c (h1 x c e)
 pin:=fun p hp=>by
  have e:p=(D,oD):=by
   have hp':p ∈ ([]:List (Addr × Obj))++[(D,oD)]:=hp
   simpa using hp'
  subst e
  refine ⟨eD,I.hok.fresh hD,hDC,fun z=>?_,dD⟩
  rcases List.mem_cons.mp (I.stkSub D z) with e | e
  ·exact absurd (Nat.lt_of_lt_of_le I.lt hD) (by rw [e];exact Nat.lt_irrefl _)
  ·exact I.nofs hD e
 hok:=I.hok.kept kp
 len:=by unfold mapS;rw [List.length_map];exact S.map.len
theorem comp_out {σ':L2.St} {H':Hp} {s':Shared} {h':Heap} {D:Addr} {acc:List V} {its:List Value} {n:Nat} (I:Inv X pins σ H s) (hC:s.heap.objs.size<=C) (hD:s.heap.objs.size<=D) (hDC:D ≠ C) (hf:∀ b ∈ fp,FpOk X pins H b)
  (J:Inv (comp X Nc scope cl C s H fp) [(D,{ cls:=.type "list",data:=.seq its.toArray n })] σ' H' s') (hs:Heap.SameBut C s'.heap h') (hv:Vals acc its) (hz:acc.length<=sizeLine) :
  Inv X pins σ (upd H' D (.lst acc)) { s' with heap:=h' }/\H' D=none:=by
 obtain ⟨eD,nD,_,_,_⟩:=J.pin (D,{ cls:=.type "list",data:=.seq its.toArray n }) (List.mem_append_right _ List.mem_cons_self)
 have nD':H' D=none:=nD
 have u:Un (frs X.stack) fp H H' s.heap s'.heap:=J.base
 have neC:∀ b o,s.heap.get? b=some o->b ≠ C:=fun b o e=>Nat.ne_of_lt (Nat.lt_of_lt_of_le (Heap.lt_size e) hC)
 have neD:∀ b o,s.heap.get? b=some o->b ≠ D:=fun b o e=>Nat.ne_of_lt (Nat.lt_of_lt_of_le (Heap.lt_size e) hD)
 refine ⟨?_,nD'⟩
 refine I.call' (ch:=fp) (s':={ s' with heap:=h' }) J.os ⟨fun b o e nb hb hx=>?_,fun b o e nb hb hx=>?_,fun b o e nb hx=>?_,fun b o e hx=>?_,fun b xs e=>?_,fun b o xs e=>?_,fun b ps e=>?_⟩ (fun b o e=>?_) J.bare fun b hb=>⟨(hf b hb).2.2.2.1,(hf b hb).2.1,(hf b hb).2.2.2.2.1,(hf b hb).2.2.2.2.2⟩
 ·exact (hs.2 b (neC b o e)).trans (u.keep b o e nb hb hx)
 ·obtain ⟨sl,q⟩:=u.slot b o e nb hb hx
  exact ⟨sl,(hs.2 b (neC b o e)).trans q⟩
 ·rw [upd_ne (neD b o e)];exact u.free b o e nb hx
 ·obtain ⟨o',q⟩:=u.there b o e hx
  exact ⟨o',(hs.2 b (neC b o e)).trans q⟩
 ·have q:=u.tups b xs e
  rw [upd_ne (ne_of_none q nD')];exact q
 ·have q:=u.frzs b o xs e
  rw [upd_ne (ne_of_none q nD')];exact q
 ·obtain ⟨more,q⟩:=u.tbls b ps e
  exact ⟨more,by rw [upd_ne (ne_of_none q nD')];exact q⟩
 ·have freeC':H' C=none:=J.free
  by_cases hb:b=D
  ·subst hb
   rw [upd_same] at e;cases e
   exact ⟨hz,its,n,hv,(hs.2 _ hDC).trans eD⟩
  ·rw [upd_ne hb] at e
   refine (J.hok b o e).stay (fun c v hc q=>(hs.2 c ?_).trans q) (fun c q=>by rw [upd_ne (ne_of_none q nD')];exact q) fun c xs q=>by rw [upd_ne (ne_of_none q nD')];exact q
   rcases hc with z | z
   ·rw [z];exact ne_of_none e freeC'
   ·exact ne_of_none z freeC'
end
def wComp (J:It) (g:TG) (tt:TT) (te:TE) (Q:VK) (σ:L2.St) (H:Hp):Prop:=
 ∃ W:Nat->Nat->L2.St->List V->Hp->Prop,(∃ m,W 0 m σ [] H)/\∀ i m σ acc H,W i m σ acc H →
  (J.stop i H/\acc.length<=sizeLine/\∀ D,H D=none->Q (.ref D) (upd H D (.lst acc))) ∨
  (J.go i H/\∀ x H',J.yld i H x H'->g x σ H' fun σ2 H2=>tt σ2 H2 fun b H3=>if b=true then te σ2 H3 fun v H4=>acc.length < sizeLine/\∃ m',m' < m/\W (i+1) m' σ2 (acc++[v]) H4 else ∃ m',m' < m/\W (i+1) m' σ2 acc H3)
def tComp (mp:List (Option Nat)) (wi:TI) (g:TG) (tt:TT) (te:TE):TE:=fun σ H Q=>wi σ H fun J H1=>wComp J g tt te Q (mapS mp σ) H1
section
variable {X:Cx} {scope:Scope} {Nc:List Str} {mp:List (Option Nat)} {tg iter elt:Expr} {ifs:List Expr} {pos:Pos} {wi:TI} {g:TG} {tt:TT} {te:TE}
theorem comp_block {pins:List (Addr × Obj)} {σ:L2.St} {H:Hp} {s2:Shared} {it:Addr} {fp:List Addr} {tn:Nat->Heap->Prop} {J:It} {cl:List (Str × Addr)} {RR:Value->Addr->Result->Shared->Prop} {Q:VK}
  (hc:X.calm=true) (S:CompOk X scope Nc mp)
  (hb:∀ cl C s H fp,PG (comp X Nc scope cl C s H fp) tg g/\PTs (comp X Nc scope cl C s H fp) ifs tt/\PE (comp X Nc scope cl C s H fp) elt te)
  (h1:∀ x c,cl.lookup x=some c->X.env.cells.lookup x=some c) (h2:∀ y ∈ scope.names,y.2=.free->∃ c,cl.lookup y.1=some c)
  (I:Inv X pins σ H s2) (T:Turn X.prog X.w X.K tg J fp it tn) (st:tn 0 s2.heap) (hf:∀ b ∈ fp,FpOk X pins H b) (hw:wComp J g tt te Q (mapS mp σ) H)
  (hR:∀ D C s' H',s2.heap.objs.size<=C->s2.heap.objs.size<=D->D ≠ C->(∃ m,s'.heap.Ns C m)->(∀ h',Heap.SameBut C s'.heap h'->Inv X pins σ H' { s' with heap:=h' })->H' C=none->Q (.ref D) H'->RR (.ref D) C (.ok .next) s') :
  wpAny (model X.prog X.w) X.A (newList []) (fun acc s₃=>wpAny (model X.prog X.w) X.A (newFunctionEnv scope X.env.globals cl [] X.env.qual none .none (some X.env)) (fun cenv s₄=>
   codeAny (model X.prog X.w) X.A (.compStart (.ListComp elt [⟨tg,iter,ifs,0⟩] scope pos) 0 (.ref it) acc { cenv with scope:=relabel scope X.env }) (RR acc cenv.locals) s₄) X.xe s₃) X.xe s2:=by
 obtain ⟨W,⟨m0,w0⟩,turn⟩:=hw
 refine wpAny_newObj_type (wpAny_newFunctionEnv S.noc (by intro y hy;simp at hy) (fun h₁ hns₁ hsb₁=>?_) S.kind)
 dsimp only at hns₁ hsb₁ ⊢
 generalize hH2:s2.heap.push { cls:=.type "list",dict:=none,data:=.seq ([]:List Value).toArray }=H2 at hns₁ hsb₁ ⊢
 have hC:H2.objs.size=s2.heap.objs.size+1:=by rw [<-hH2,Heap.size_push]
 have hDC:s2.heap.objs.size ≠ H2.objs.size:=by rw [hC];exact Nat.ne_of_lt (Nat.lt_succ_self _)
 have hCle:s2.heap.objs.size<=H2.objs.size:=by rw [hC];exact Nat.le_succ _
 have below:∀ b,b < s2.heap.objs.size->b ≠ H2.objs.size:=fun b hb=>by rw [hC];exact Nat.ne_of_lt (Nat.lt_succ_of_lt hb)
 have old:∀ b o,s2.heap.get? b=some o->h₁.get? b=some o:=fun b o e=>hsb₁.extBut b o (below b (Heap.lt_size e)) (Heap.get?_push_of_some _ (hH2 ▸ Heap.get?_push_of_some _ e))
 have eD:h₁.get? s2.heap.objs.size=some { cls:=.type "list",data:=.seq ([]:List Value).toArray 0 }:=hsb₁.extBut _ _ hDC (Heap.get?_push_of_some _ (hH2 ▸ Heap.get?_push_size _ rfl))
 have ho:∀ b ∈ fp,b < s2.heap.objs.size:=fun b hb=>by
  obtain ⟨o,e,_⟩:=T.obj 0 _ st b hb
  exact Heap.lt_size e
 generalize hYd:comp X Nc scope cl H2.objs.size s2 H fp=Y
 have bodies:=hb cl H2.objs.size s2 H fp
 rw [hYd] at bodies
 obtain ⟨hg,htt,hte⟩:=bodies
 have I0:∀ tk,Inv Y [(s2.heap.objs.size,{ cls:=.type "list",data:=.seq ([]:List Value).toArray 0 })] (mapS mp σ) H { s2 with heap:=h₁,toks:=tk }:=fun tk=>by
  rw [<-hYd]
  exact comp_inv I S h1 h2 hCle hf ho old hns₁ (Nat.le_refl _) hDC eD fun v z=>by cases z
 have hYp:Y.prog=X.prog:=by rw [<-hYd];rfl
 have hYw:Y.w=X.w:=by rw [<-hYd];rfl
 have hYK:Y.K=X.K:=by rw [<-hYd];rfl
 have hYA:Y.A=X.A:=by rw [<-hYd];rfl
 have hYc:Y.calm=true:=by rw [<-hYd];exact hc
 have hYx:Y.xe=fun _ _=>False:=by rw [<-hYd];rfl
 have hYe:Y.env=compEnvC scope cl H2.objs.size X.env:=by rw [<-hYd];rfl
 have hYs:Y.s₀=s2:=by rw [<-hYd];rfl
 have hYex:Y.ex=fp:=by rw [<-hYd];rfl
 have hYpn:Y.pn=[]:=by rw [<-hYd];rfl
 have hYfs:Y.fs=frs X.stack:=by rw [<-hYd];rfl
 -- the iterator's objects,in the block
 have fpY:∀ {o:Obj} {H':Hp},(∀ b ∈ fp,H' b=none)->∀ b ∈ fp,FpOk Y [(s2.heap.objs.size,o)] H' b:=fun {o H'} hn b hb=>by
  refine ⟨hn b hb,?_,?_,.inl (by rw [hYex];exact hb),fun x c e=>?_,fun p hp=>?_⟩
  ·rw [hYe];exact below b (ho b hb)
  ·rw [hYfs]
   intro z
   rcases List.mem_cons.mp (I.stkSub b z) with e | e
   ·exact (hf b hb).2.1 e
   ·exact (hf b hb).2.2.1 e
  ·rw [hYe] at e
   exact (hf b hb).2.2.2.2.1 x c (h1 x c e)
  ·rw [hYpn] at hp
   have e:p=(s2.heap.objs.size,o):=by simpa using hp
   subst e
   exact Nat.ne_of_gt (ho b hb)
 have loop:∀ s₃:Shared,s₃={ s2 with heap:=h₁,toks:=s2.toks+([]:List (Str × Value)).length } →
   codeAny (model X.prog X.w) X.A (.compLoop (.ListComp elt [⟨tg,iter,ifs,0⟩] scope pos) 0 (.ref it) (.ref s2.heap.objs.size) (compEnvC scope cl H2.objs.size X.env))
    (RR (.ref s2.heap.objs.size) H2.objs.size) s₃:=by
  rintro s₃ rfl
  refine compLoop_any (fun n s'=>∃ i σ' H' acc its k,Inv Y [(s2.heap.objs.size,{ cls:=.type "list",data:=.seq its.toArray k })] σ' H' s'/\tn i s'.heap/\(∀ b ∈ fp,H' b=none)/\Vals acc its/\acc.length<=sizeLine/\W i n σ' acc H') ?_ m0
   ⟨0,mapS mp σ,H,[],[],0,I0 _,T.keep 0 _ _ st fun b _ o e=>old b o e,fun b hb=>(hf b hb).1,.nil,Nat.zero_le _,w0⟩
  rintro n s3 ⟨i,σ3,H3,acc,its,k,I3,st3,fr3,hv,hz,w3⟩
  rcases turn i n σ3 acc H3 w3 with ⟨stop,hzz,qn⟩ | ⟨go,step⟩
  ·have hd:=T.done Y hYp hYw hYK hYc i _ s3 σ3 H3 NE I3 (fpY fr3) st3 stop
   rw [hYA] at hd
   refine thn hd fun r s4 ⟨hr,I4⟩=>?_
   subst hr
   have I4':=I4
   rw [<-hYd] at I4'
   have nC:H3 H2.objs.size=none:=by
    have z:=I4.free
    rw [hYe] at z
    exact z
   obtain ⟨_,nD⟩:=comp_out I hCle (Nat.le_refl _) hDC hf I4' (Heap.SameBut.refl _ s4.heap) hv hzz
   refine hR _ _ s4 _ hCle (Nat.le_refl _) hDC ?_ (fun h' hs'=>(comp_out I hCle (Nat.le_refl _) hDC hf I4' hs' hv hzz).1) ?_ (qn _ nD)
   ·obtain ⟨m',hn',_⟩:=I4.loc
    rw [hYe] at hn'
    exact ⟨m',hn'⟩
   ·rw [upd_ne (Ne.symm hDC)];exact nC
  ·have hi:=T.item Y hYp hYw hYK hYc i _ s3 σ3 H3 NE I3 (fpY fr3) st3 go
   rw [hYA] at hi
   refine thn hi fun r s4 ⟨u,hr,h4⟩=>?_
   subst hr
   refine thn h4 fun _ s5 ⟨x,H5,I5,r5,y5,st5,fr5⟩=>?_
   have I5':=I5.pinned (fpY fr5) (T.obj _ _ st5)
   have ha:=hg _ s5 σ3 H5 x u _ I5' r5 (step x H5 y5)
   rw [hYp,hYw,hYA,hYe,hYx] at ha
   refine thn ha fun _ s6 ⟨σ6,H6,I6,q6⟩=>?_
   have ht:=htt _ s6 σ6 H6 _ I6 q6
   rw [hYp,hYw,hYA,hYe,hYx] at ht
   refine thn ht fun ok s7 ⟨H7,I7,q7⟩=>?_
   cases ok with
   | false=>
    have q7':∃ m',m' < n/\W (i+1) m' σ6 acc H7:=q7
    obtain ⟨m',hm,w7⟩:=q7'
    rw [if_neg Bool.false_ne_true]
    refine ⟨m',hm,i+1,σ6,H7,acc,its,k,I7.unpinned,T.keep _ _ _ st5 fun b hb o e=>(I7.pin (b,o) (List.mem_append_right _ (List.mem_append_right _ (mem_pinsAt hb e)))).1,fun b hb=>?_,hv,hz,w7⟩
    obtain ⟨o,e,d⟩:=T.obj _ _ st5 b hb
    exact (I7.pin (b,o) (List.mem_append_right _ (List.mem_append_right _ (mem_pinsAt hb e)))).2.1
   | true=>
    rw [if_pos rfl]
    have he:=hte _ s7 σ6 H7 _ I7 q7
    rw [hYp,hYw,hYA,hYe,hYx] at he
    refine thn he fun x4 s8 ⟨v,H8,I8,r8,hlt,m',hm,w8⟩=>?_
    have st8:tn (i+1) s8.heap:=T.keep _ _ _ st5 fun b hb o e=>(I8.pin (b,o) (List.mem_append_right _ (List.mem_append_right _ (mem_pinsAt hb e)))).1
    have fr8:∀ b ∈ fp,H8 b=none:=fun b hb=>by
     obtain ⟨o,e,d⟩:=T.obj _ _ st5 b hb
     exact (I8.pin (b,o) (List.mem_append_right _ (List.mem_append_right _ (mem_pinsAt hb e)))).2.1
    have I8':=I8.unpinned
    obtain ⟨e8,n8,ne8,nf8,_⟩:=I8'.pin (s2.heap.objs.size,{ cls:=.type "list",data:=.seq its.toArray k }) (List.mem_append_right _ List.mem_cons_self)
    refine wpAny_list_append_plain (items:=its.toArray) ⟨k,e8⟩ (fun h9 hl9 hs9=>?_) (by rw [List.size_toArray,<-hv.length];exact hz)
    obtain ⟨k9,e9⟩:=hl9
    have ep:its.toArray.push x4=(its++[x4]).toArray:=by simp
    rw [ep] at e9
    -- the list has turned
    have I9:Inv Y [] σ6 H8 { s8 with heap:=h9 }:=by
     refine (I8'.pins_of (pins':=[]) fun p hp=>nomatch hp).turned (t':=s8.toks) (it:=s2.heap.objs.size) (fun b o hb e=>(hs9.2 b hb).trans e) n8 ne8 (.inr (by rw [hYs];exact Nat.le_refl _)) (fun x c e z=>?_) fun p hp=>?_
     ·rw [hYe] at e
      obtain ⟨v',o',ho',_⟩:=I.cell x c (h1 x c e)
      exact absurd (Heap.lt_size ho') (by rw [z];exact Nat.lt_irrefl _)
     ·rw [hYpn] at hp
      exact absurd hp (by simp)
    refine ⟨m',hm,i+1,σ6,H8,acc++[v],its++[x4],k9,I9.pins_of fun p hp=>?_,?_,fr8,hv.append (.cons r8 .nil),?_,w8⟩
    ·have e:p=(s2.heap.objs.size,{ cls:=.type "list",data:=.seq (its++[x4]).toArray k9 }):=by simpa using hp
     subst e
     exact ⟨e9,n8,ne8,nf8,fun v z=>by cases z⟩
    ·exact T.keep _ _ _ st8 fun b hb o e=>(hs9.2 b (Nat.ne_of_lt (ho b hb))).trans e
    ·rw [List.length_append,List.length_singleton];omega
 have hself:=T.self X.A 0 { s2 with heap:=h₁,toks:=s2.toks+([]:List (Str × Value)).length } (fun it' s'=>codeAny (model X.prog X.w) X.A (.compLoop (.ListComp elt [⟨tg,iter,ifs,0⟩] scope pos) 0 it' (.ref s2.heap.objs.size) (compEnvC scope cl H2.objs.size X.env))
    (RR (.ref s2.heap.objs.size) H2.objs.size) s') (notedBy (model X.prog X.w) X.A (compEnvC scope cl H2.objs.size X.env) fun x s'=>RR (.ref s2.heap.objs.size) H2.objs.size (.error x) s') (T.keep 0 _ _ st fun b _ o e=>old b o e) (loop _ rfl)
 exact codeAny_compStart_list (loop _ rfl) hself
theorem clos_of (S:CompOk X scope Nc mp) {pins:List (Addr × Obj)} {σ:L2.St} {H:Hp} {s:Shared} (I:Inv X pins σ H s):∃ cl,closureFor scope X.env=pure cl/\(∀ x c,cl.lookup x=some c->X.env.cells.lookup x=some c)/\(∀ y ∈ scope.names,y.2=.free->∃ c,cl.lookup y.1=some c):=
 closure_ok fun y hy hf=>I.ok.has y.1 (S.fre y hy hf)
theorem pe_comp (hc:X.calm=true) (S:CompOk X scope Nc mp) (hi:PI X tg iter wi)
  (hb:∀ cl C s H fp,PG (comp X Nc scope cl C s H fp) tg g/\PTs (comp X Nc scope cl C s H fp) ifs tt/\PE (comp X Nc scope cl C s H fp) elt te)
  (hs:∀ x,foldedSetIterable iter X.env x=pure x:=by intro _;rfl):PE X (.ListComp elt [⟨tg,iter,ifs,0⟩] scope pos) (tComp mp wi g tt te):=by
 intro pins s σ H Q I h
 obtain ⟨cl,hcl,h1,h2⟩:=clos_of S I
 rw [eval_ListComp]
 refine wpAny_comprehension_free (use:=none) rfl hs hcl S.kind S.loc (thn (hi pins s σ H _ I h) fun v s1 hv=>thn hv fun itv s2 hq=>?_)
 obtain ⟨it,fp,tn,J,H2,e,I2,T,st2,f2,hw⟩:=hq
 subst e
 refine comp_block (RR:=fun acc C=>compPost (model X.prog X.w) X.A X.xe none (EP X pins σ Q) acc C) (Q:=Q) hc S hb h1 h2 I2 T st2 f2 hw fun D C s' H' hC hD hDC hm hI hn hq=>?_
 obtain ⟨m,hm⟩:=hm
 exact ⟨m,hm,fun h' hs'=>⟨.ref D,H',hI h' hs',rfl,hq⟩⟩
theorem ps_setC {i:Nat} {x:Str} {pos' spos:Pos} (hc:X.calm=true) (hN:X.N.Nodup) (hiN:X.N[i]?=some x) (hx:X.env.scope.names.lookup x=some .local) (S:CompOk X scope Nc mp) (hi:PI X tg iter wi)
  (hb:∀ cl C s H fp,PG (comp X Nc scope cl C s H fp) tg g/\PTs (comp X Nc scope cl C s H fp) ifs tt/\PE (comp X Nc scope cl C s H fp) elt te)
  (hsw:swapsWith (.ListComp elt [⟨tg,iter,ifs,0⟩] scope pos) (some (.Name x pos')) spos.line X.env=pure true:=by rfl)
  (hs:∀ x,foldedSetIterable iter X.env x=pure x:=by intro _;rfl):PS X (.Assign [.Name x pos'] (.ListComp elt [⟨tg,iter,ifs,0⟩] scope pos) spos) (tAsg (tComp mp wi g tt te) (gName i)):=by
 intro pins s σ H D I h
 obtain ⟨cl,hcl,h1,h2⟩:=clos_of S I
 rw [exec_Assign_Name_used _ _ _ _ hsw]
 refine wpAny_bind (wpAny_standAt (wpAny_bind ?_))
 show wpAny _ X.A (do let _ <-comprehension (.ListComp elt [⟨tg,iter,ifs,0⟩] scope pos) scope X.env _ (newList []) false (eval iter X.env) (some (assign (.Name x pos') X.env))) _ _ s
 refine wpAny_bind (wpAny_mono (wpAny_comprehension_free (use:=some (assign (.Name x pos') X.env)) (Q:=fun _ s'=>SP X pins D .next s') rfl hs hcl S.kind S.loc (thn (hi pins s σ H _ I h) fun v s1 hv=>thn hv fun itv s2 hq=>?_)) (fun _ s' hq=>wpAny_pure (wpAny_pure hq)) fun _ _ e=>e)
 obtain ⟨it,fp,tn,J,H2,e,I2,T,st2,f2,hw⟩:=hq
 subst e
 refine comp_block (RR:=fun acc C=>compPost (model X.prog X.w) X.A X.xe (some (assign (.Name x pos') X.env)) (fun _ s'=>SP X pins D .next s') acc C) (Q:=fun v H1=>D.nx (σ.set i (some v)) H1) hc S hb h1 h2 I2 T st2 f2 hw fun A C s' H' hC hD hDC hm hI hn hq=>?_
 obtain ⟨m,hm⟩:=hm
 show wpAny _ X.A (assign (.Name x pos') X.env (.ref A)) _ _ s'
 have I0:Inv X pins σ H' s':=hI s'.heap (Heap.SameBut.refl ..)
 have hLC:X.env.locals ≠ C:=Nat.ne_of_lt (Nat.lt_of_lt_of_le I2.lt hC)
 have hcC:∀ y c,X.env.cells.lookup y=some c->c ≠ C:=fun y c e z=>by
  obtain ⟨v,o,ho,_⟩:=I2.cell y c e
  exact absurd (Nat.lt_of_lt_of_le (Heap.lt_size ho) hC) (by rw [z];exact Nat.lt_irrefl _)
 refine wpAny_assign_Name (store_ok2 I0 hN hiN (.inl hx) (show RelV (.ref A) (.ref A) from rfl) (fun s6 I6 hch=>?_) (.inr hx))
 obtain ⟨a,hs6,ha⟩:=hch
 have hCa:C ≠ a:=by
  rcases ha with z | z
  ·rw [z];exact Ne.symm hLC
  ·exact Ne.symm (hcC x a z)
 refine ⟨m,hm.sameBut hs6 hCa,fun h' hs'=>?_⟩
 have I7:Inv X pins (σ.set i (some (.ref A))) H' { s6 with heap:=h' }:=I6.turned (t':=s6.toks) (it:=C) (fun b o hb e=>(hs'.2 b hb).trans e) hn (Ne.symm hLC) (.inr (Nat.le_trans I2.sz hC)) hcC fun p hp z=>by
  exact absurd (Nat.lt_of_lt_of_le (Heap.lt_size (I2.pin p hp).1) hC) (by rw [z];exact Nat.lt_irrefl _)
 exact ⟨_,H',I7,hq⟩
end
end L3
namespace L3
open PySem PySem.Spec PyProof.Rows L2
theorem bounds_gen (lo hi:Option Int) (n:Nat):sliceBounds lo hi none n=(((HT.sIx n 0 lo:Nat):Int),((HT.sIx n n hi:Nat):Int),1):=by
 have clip:∀ (v:Int),max 0 (min (if v < 0 then v+(n:Int) else v) (n:Int))=(((if v < 0 then (v+(n:Int)).toNat else min v.toNat n):Nat):Int):=fun v=>by
  by_cases hv:v < 0
  ·rw [if_pos hv,if_pos hv];omega
  ·rw [if_neg hv,if_neg hv];omega
 unfold sliceBounds
 refine Prod.ext ?_ (Prod.ext ?_ rfl)
 ·cases lo with
  | none=>rfl
  | some v=>exact clip v
 ·cases hi with
  | none=>rfl
  | some v=>exact clip v
theorem slicePick_cut (its:List Value) (lo hi:Option Int):slicePick its.toArray lo hi none=((its.drop (HT.sIx its.length 0 lo)).take (HT.sIx its.length its.length hi - HT.sIx its.length 0 lo)).toArray:=by
 unfold slicePick
 rw [bounds_gen,List.size_toArray]
 dsimp only
 rw [sliceRange_one,pick_run]
theorem strIx_gen (lo hi:Option Int) (n:Nat):Builtin.Str.strSliceIndices lo hi 1 n=(List.range (HT.sIx n n hi - HT.sIx n 0 lo)).map (HT.sIx n 0 lo+·):=by
 have clip:∀ (v:Int),max 0 (min (if v < 0 then v+(n:Int) else v) (n:Int))=(((if v < 0 then (v+(n:Int)).toNat else min v.toNat n):Nat):Int):=fun v=>by
  by_cases hv:v < 0
  ·rw [if_pos hv,if_pos hv];omega
  ·rw [if_neg hv,if_neg hv];omega
 rw [<-sliceRange_one]
 unfold Builtin.Str.strSliceIndices
 have e1:(match lo with | none=>(0:Int) | some i=>max 0 (min (if i < 0 then i+(n:Int) else i) (n:Int)))=((HT.sIx n 0 lo:Nat):Int):=by
  cases lo with
  | none=>rfl
  | some v=>exact clip v
 have e2:(match hi with | none=>(n:Int) | some i=>max 0 (min (if i < 0 then i+(n:Int) else i) (n:Int)))=((HT.sIx n n hi:Nat):Int):=by
  cases hi with
  | none=>rfl
  | some v=>exact clip v
 rw [<-e1,<-e2]
 cases lo <;> cases hi <;> rfl
def cutL (l:List Nat) (lo hi:Option Int):List Nat:=(l.drop (HT.sIx l.length 0 lo)).take (HT.sIx l.length l.length hi - HT.sIx l.length 0 lo)
theorem slice_cut (z:Str) (lo hi:Option Int):Txt.slice z lo hi=⟨(cutL z.cps.toList lo hi).toArray⟩:=by
 have hl:z.cps.toList.length=z.length:=by simp [Str.length]
 have hb:HT.sIx z.length z.length hi<=z.length:=HT.sIx_le _ _ (Nat.le_refl _) hi
 unfold Txt.slice cutL
 rw [strIx_gen,hl]
 by_cases h:((1:Int) == 1 && ((List.range (HT.sIx z.length z.length hi - HT.sIx z.length 0 lo)).map (HT.sIx z.length 0 lo+·)).length == z.length)=true
 ·rw [if_pos h]
  rw [Bool.and_eq_true,List.length_map,List.length_range] at h
  have h2:=eq_of_beq h.2
  have e:(z.cps.toList.drop (HT.sIx z.length 0 lo)).take (HT.sIx z.length z.length hi - HT.sIx z.length 0 lo)=z.cps.toList:=by
   by_cases h0:z.length=0
   ·have:z.cps.toList=[]:=List.eq_nil_of_length_eq_zero (by rw [hl];exact h0)
    rw [this];simp
   ·have ha:HT.sIx z.length 0 lo=0:=by omega
    rw [ha,List.drop_zero]
    exact List.take_of_length_le (by rw [hl];omega)
  rw [e]
 ·rw [if_neg h,pick_run]
theorem str_mk (z:Str):(⟨z.cps.toList.toArray⟩:Str)=z:=by cases z;simp
section
variable {X:Cx}
def rSlLs (K:PySem.W.Frag):V->Option Int->Option Int->Hp->VK->Prop:=fun x lo hi H Q=>∃ a xs,x=.ref a/\SqL K H a xs/\∀ p,H p=none->Q (.ref p) (upd H p (.lst (cutV xs lo hi)))
theorem sl_lst:SlR X (rSlLs X.K):=by
 intro pins s σ H x v vl vu lo hi sl Q I rx hs pl pu h
 obtain ⟨a,xs,rfl,hx,q⟩:=h
 cases rx
 obtain ⟨its,r,hp,hz⟩:=I.list hx
 refine ⟨"list",_,list_getitem_lookup,hp.isList.typeIs,?_⟩
 refine wpAny_getItem_list_slice hp.isList hs pl pu .none (by simp) ?_ (by rw [List.size_toArray,<-r.length];exact hz)
 rw [slicePick_cut,<-r.length]
 exact ⟨.ref _,_,I.lnew (t':=s.toks) ((r.drop _).take _) (Nat.le_trans (cutV_length xs lo hi) hz),rfl,q _ I.fresh⟩
def rSlS:V->Option Int->Option Int->Hp->VK->Prop:=fun x lo hi H Q=>∃ z,x=.str z/\z.length<=sizeLine/\Q (.str ⟨(cutL z.cps.toList lo hi).toArray⟩) H
theorem sl_str:SlR X rSlS:=by
 intro pins s σ H x v vl vu lo hi sl Q I rx hs pl pu h
 obtain ⟨z,rfl,hz,q⟩:=h
 obtain ⟨t,rfl⟩:=rx
 refine ⟨"str",_,F.slot_str_getitem.lookup,typeIs_str _ _ _,?_⟩
 have fin:∀ t' k,EP X pins σ Q (.str (Txt.slice z lo hi) t') { s with toks:=k }:=fun t' k=>by
  rw [slice_cut]
  exact ⟨.str _,H,I.tok _,⟨_,rfl⟩,q⟩
 obtain ⟨os,hos,hcs,hds⟩:=id hs
 cases pl with
 | none=>
  cases pu with
  | none=>exact wpAny_getItem_str_slice (l:=none) (u:=none) (st:=none) ⟨os,hos,hcs,hds⟩ rfl (post_val_or_str ⟨Nat.le_trans (Txt.slice_le z _ _) hz,fin⟩)
  | int j uj=>exact wpAny_getItem_str_slice (l:=none) (u:=some (j,uj)) (st:=none) ⟨os,hos,hcs,hds⟩ rfl (post_val_or_str ⟨Nat.le_trans (Txt.slice_le z _ _) hz,fin⟩)
 | int i ui=>
  cases pu with
  | none=>exact wpAny_getItem_str_slice (l:=some (i,ui)) (u:=none) (st:=none) ⟨os,hos,hcs,hds⟩ rfl (post_val_or_str ⟨Nat.le_trans (Txt.slice_le z _ _) hz,fin⟩)
  | int j uj=>exact wpAny_getItem_str_slice (l:=some (i,ui)) (u:=some (j,uj)) (st:=none) ⟨os,hos,hcs,hds⟩ rfl (post_val_or_str ⟨Nat.le_trans (Txt.slice_le z _ _) hz,fin⟩)
theorem strsAre_of {ws:List Str}:∀ {us:List Value},Vals (ws.map V.str) us->StrsAre us ws:=by
 induction ws with
 | nil=>intro us r;rw [List.map_nil] at r;cases r;exact .nil
 | cons z ws ih=>
  intro us r
  rw [List.map_cons] at r
  cases r with
  | cons r1 r2=>
   obtain ⟨t,e⟩:=r1
   subst e
   exact .cons z t (ih r2)
def rJoin (K:PySem.W.Frag):V->List V->Hp->VK->Prop:=fun x vs H Q=>∃ sep p ws,x=.str sep/\vs=[.ref p]/\(SqL K H p (ws.map V.str)\/SqT K H p (ws.map V.str))/\(ws.map (·.length)).sum+ws.length * sep.length<=16777216/\Q (.str (Txt.join sep ws)) H
theorem mt_join:MtR X "str.join" (rJoin X.K):=by
 intro pins s σ H x xs v us Q I rx rv h
 obtain ⟨sep,p,ws,rfl,rfl,hq,hz,q⟩:=h
 obtain ⟨t,rfl⟩:=rx
 obtain ⟨u,rfl,ru⟩:=rv.one
 cases ru
 rcases hq with hq | hq
 ·obtain ⟨its,r,hp,_⟩:=I.list hq
  exact join_list hp.isList (by simpa using strsAre_of r) hz fun t' k=>⟨.str _,H,I.tok _,⟨_,rfl⟩,q⟩
 ·obtain ⟨its,r,hp,_⟩:=I.tuple hq
  exact join_tuple hp (by simpa using strsAre_of r) hz fun t' k=>⟨.str _,H,I.tok _,⟨_,rfl⟩,q⟩
theorem all_range (bs:List Bool):(List.range bs.length).all (fun i=>bs.getD i false)=bs.all id:=by
 rw [Bool.eq_iff_iff,List.all_eq_true,List.all_eq_true]
 constructor
 ·intro h b hb
  obtain ⟨i,hi,e⟩:=List.mem_iff_getElem.mp hb
  have:=h i (List.mem_range.mpr hi)
  rw [List.getD_eq_getElem?_getD,List.getElem?_eq_getElem hi] at this
  rw [<-e];exact this
 ·intro h i hi
  have hi':=List.mem_range.mp hi
  rw [List.getD_eq_getElem?_getD,List.getElem?_eq_getElem hi']
  exact h _ (List.getElem_mem hi')
theorem call_all (hc:X.calm=true):CallR X (.builtin "all") (fun xs H Q=>∃ (p:Addr) (bs:List Bool),xs=[.ref p]/\SqL X.K H p (bs.map V.bl)/\Q (.bl (bs.all id)) H):=by
 intro pins s σ H xs us Q I r h
 obtain ⟨p,bs,rfl,hq,q⟩:=h
 obtain ⟨u,rfl,ru⟩:=r.one
 cases ru
 obtain ⟨its,rv,hp,hz⟩:=I.list hq
 have hlt:p < s.heap.objs.size:=by obtain ⟨_,e,_⟩:=hp.isList;exact Heap.lt_size e
 refine call_all_walk (wpAny_pyIter_list hp.isList ?_)
 refine ⟨s.heap.objs.size,[s.heap.objs.size,p],[s.heap.objs.size],its.toArray.size,_,_,fun i=>bs.getD i false,rfl,Walks.list (A:=X.A.in1) (I.ok.hd hc) _ _ (Nat.ne_of_lt hlt) its.toArray,⟨⟨_,Heap.get?_push_size _ rfl,rfl,rfl⟩,hp.isList.push _⟩,?_,?_⟩
 ·intro i v s' Q' E' hv hQ'
  have hv':its[i]?=some v:=by simpa using hv
  have hi:i < (bs.map V.bl).length:=by
   rw [rv.length];exact (List.getElem?_eq_some_iff.mp hv').1
  have hib:i < bs.length:=by simpa using hi
  obtain ⟨u,hu,ru⟩:=rv.get (i:=i) (x:=V.bl bs[i]) (by rw [List.getElem?_map,List.getElem?_eq_getElem hib];rfl)
  rw [hv'] at hu;cases hu
  cases ru
  have e:bs.getD i false=bs[i]:=by rw [List.getD_eq_getElem?_getD,List.getElem?_eq_getElem hib];rfl
  dsimp only at hQ'
  rw [e] at hQ'
  exact wpAny_truthy_bool hQ'
 ·intro h' tk hk
  have el:its.toArray.size=bs.length:=by rw [List.size_toArray,<-rv.length,List.length_map]
  rw [el,all_range]
  exact ⟨.bl _,H,I.kept fun b o e=>hk b o (fun z=>absurd (Heap.lt_size e) (by rw [List.mem_singleton.mp z];exact Nat.lt_irrefl _)) (Heap.get?_push_of_some _ e),rfl,q⟩
theorem call_isi:CallR X (.builtin "isinstance") (fun xs H Q=>∃ x n t b,xs=[x,.ty n]/\TyOf X.K H x t/\PySem.W.kitOne X.K t (.type n)=some b/\Q (.bl b) H):=by
 intro pins s σ H xs us Q I r h
 obtain ⟨x,n,t,b,rfl,ty,e,q⟩:=h
 obtain ⟨u,u2,rfl,r1,r2⟩:=r.two
 cases r2
 exact isinst_ok I r1 ty e fun tk=>⟨.bl b,H,I.tok _,rfl,q⟩
def Its (z:Str):It:=⟨fun i _=>i < z.length,fun i H x H'=>H'=H/\∃ c,z.cps[i]?=some c/\x=.str ⟨#[c]⟩,fun i _=>z.length<=i⟩
theorem turn_str {P:Program} {w:World} {K:PySem.W.Frag} {tg:Expr} (z:Str) (t:Tok) (it:Addr):Turn P w K tg (Its z) [it] it (fun i h=>h.IsStrIter it (strIterType z) z t i) where
 mem:=by simp
 obj:=fun i h st b hb=>by
  have e:b=it:=by simpa using hb
  subst e
  obtain ⟨o,e,c,d⟩:=st
  exact ⟨o,e,fun v z=>by rw [d] at z;cases z⟩
 keep:=fun i h h' st k=>by
  obtain ⟨o,e,r⟩:=st
  exact ⟨o,k it (by simp) o e,r⟩
 item:=by
  intro X hP hw hK hc i pins s σ H E I hf st hg
  subst hP hw hK
  have hg':i < z.cps.size:=hg
  obtain ⟨f0,f1,f2,f3,f4,f5⟩:=hf it (by simp)
  have fin:∀ h' tk,h'.IsStrIter it (strIterType z) z t (i+1)->Heap.SameBut it s.heap h'->∃ u,some (Value.str ⟨#[z.cps[i]]⟩ s.toks)=some u ∧
    wpAny (model X.prog X.w) X.A (letOwnedTupleGo tg (.ref it) u) (fun _ s2=>∃ x H',Inv X pins σ H' s2/\RelV x u/\(Its z).yld i H x H'/\s2.heap.IsStrIter it (strIterType z) z t (i+1)/\∀ b ∈ [it],H' b=none) E { s with heap:=h',toks:=tk }:=fun h' tk st' sb=>by
   have I1:Inv X pins σ H { s with heap:=h',toks:=tk }:=I.turned (fun b o hb e=>(sb.2 b hb).trans e) f0 f1 f3 f4 f5
   obtain ⟨o,e,c,d⟩:=id st'
   refine ⟨_,rfl,go_of (s:={ s with heap:=h',toks:=tk }) e c d ?_ ⟨.str ⟨#[z.cps[i]]⟩,H,I1,⟨_,rfl⟩,⟨rfl,_,by simp [hg'],rfl⟩,st',fun b hb=>(hf b hb).1⟩⟩
   unfold strIterType
   split <;> decide
  cases ha:z.cps.all (· < 128) with
  | true=>
   have e:strIterType z = "str_ascii_iterator" := by simp [strIterType,ha]
   rw [e] at st fin ⊢
   exact wpAny_pyNext_ascii_item st (c:=z.cps[i]) (by simp [hg']) fun h' st' sb=>fin h' _ st' sb
  | false=>
   have e:strIterType z = "str_iterator" := by simp [strIterType,ha]
   rw [e] at st fin ⊢
   exact wpAny_pyNext_wide_item st (c:=z.cps[i]) (by simp [hg']) fun h' st' sb=>fin h' _ st' sb
 done:=by
  intro X hP hw hK hc i pins s σ H E I hf st hg
  subst hP hw hK
  have hg':z.cps.size<=i:=hg
  obtain ⟨f0,f1,f2,f3,f4,f5⟩:=hf it (by simp)
  cases ha:z.cps.all (· < 128) with
  | true=>
   have e:strIterType z = "str_ascii_iterator" := by simp [strIterType,ha]
   rw [e] at st
   exact wpAny_pyNext_ascii_end (I.ok.hd hc) st (by simp [hg']) fun h' eb=>⟨rfl,I.turned (t':=s.toks) (fun b o hb e=>eb b o hb e) f0 f1 f3 f4 f5⟩
  | false=>
   have e:strIterType z = "str_iterator" := by simp [strIterType,ha]
   rw [e] at st
   exact wpAny_pyNext_wide_end (I.ok.hd hc) st (by simp [hg']) fun h' eb=>⟨rfl,I.turned (t':=s.toks) (fun b o hb e=>eb b o hb e) f0 f1 f3 f4 f5⟩
 self:=fun _ _ _ _ _ st h=>by
  cases ha:z.cps.all (· < 128) with
  | true=>
   have e:strIterType z = "str_ascii_iterator" := by simp [strIterType,ha]
   rw [e] at st
   exact wpAny_pyIter_striter_ascii st h
  | false=>
   have e:strIterType z = "str_iterator" := by simp [strIterType,ha]
   rw [e] at st
   exact wpAny_pyIter_striter_wide st h
def iStr (tl:TE):TI:=fun σ H R=>tl σ H fun x H1=>∃ z,x=.str z/\R (Its z) H1
theorem pi_str {tg l:Expr} {tl:TE} (hl:PE X l tl):PI X tg l (iStr tl):=by
 intro pins s σ H R I h
 refine thn (hl pins s σ H _ I h) fun v s1 ⟨x,H1,I1,r1,q1⟩=>?_
 obtain ⟨z,e,q⟩:=q1
 subst e
 obtain ⟨t,rfl⟩:=r1
 refine wpAny_pyIter_strU ?_
 refine ⟨s1.heap.objs.size,[s1.heap.objs.size],_,_,H1,rfl,I1.kept (t':=s1.toks) fun b o e=>Heap.get?_push_of_some _ e,turn_str z t _,⟨_,Heap.get?_push_size _ rfl,rfl,rfl⟩,fun b hb=>?_,q⟩
 have e:b=s1.heap.objs.size:=by simpa using hb
 subst e
 exact I1.fpOk (Nat.le_refl _) (I1.hok.fresh (Nat.le_refl _))
end
end L3
namespace L3
open PySem PySem.Spec PyProof.Rows L2
def mapChk (sc:Scope) (N:List Str) (own:Scope):List Str->List (Option Nat)->Bool
 | [],[]=>true
 | _ :: r,none :: m=>mapChk sc N own r m
 | x :: r,some i :: m=>(N[i]? == some x && (sc.names.lookup x == some .cell || sc.names.lookup x == some .free) && own.names.lookup x == some .free) && mapChk sc N own r m
 | _,_=>false
def compChk (sc:Scope) (N:List Str) (own:Scope) (Nc:List Str) (mp:List (Option Nat)):Bool:=
 (own.kind == .function) && (own.names.all fun y=>y.2 != .cell) && (own.names.all fun y=>y.2 != .local || own.names.lookup y.1 == some .local) &&
 (own.names.all fun y=>y.2 != .free || (sc.names.lookup y.1 == some .cell || sc.names.lookup y.1 == some .free)) && mapChk sc N own Nc mp
theorem mapChk_ok {X:Cx} {own:Scope}:∀ {Nc:List Str} {mp:List (Option Nat)},mapChk X.env.scope X.N own Nc mp=true->MapOk X own Nc mp
 | [],[],_=>trivial
 | _ :: r,none :: m,h=>mapChk_ok (Nc:=r) (mp:=m) h
 | x :: r,some i :: m,h=>by
  unfold mapChk at h
  simp only [Bool.and_eq_true,Bool.or_eq_true,beq_iff_eq] at h
  exact ⟨⟨h.1.1.1,h.1.1.2,h.1.2⟩,mapChk_ok h.2⟩
 | [],_ :: _,h=>absurd (show false=true from h) Bool.false_ne_true
 | _ :: _,[],h=>absurd (show false=true from h) Bool.false_ne_true
theorem CompOk.of {X:Cx} {own:Scope} {Nc:List Str} {mp:List (Option Nat)} (h:compChk X.env.scope X.N own Nc mp=true):CompOk X own Nc mp:=by
 unfold compChk at h
 simp only [Bool.and_eq_true,List.all_eq_true,Bool.or_eq_true,beq_iff_eq,bne_iff_ne] at h
 obtain ⟨⟨⟨⟨h1,h2⟩,h3⟩,h4⟩,h5⟩:=h
 refine ⟨h1,h2,fun y hy e=>?_,fun y hy e=>?_,mapChk_ok h5⟩
 ·rcases h3 y hy with z | z
  ·exact absurd e z
  ·exact z
 ·rcases h4 y hy with z | z
  ·exact absurd e z
  ·exact z
structure Src (J:It) (H:Hp) (xs:List V):Prop where
 go:∀ i,i < xs.length->J.go i H
 yld:∀ i x H',i < xs.length->J.yld i H x H'->H'=H/\xs[i]?=some x
 stop:∀ i,xs.length<=i->J.stop i H
theorem src_str (z:Str) (H:Hp):Src (Its z) H (z.cps.toList.map fun c=>V.str ⟨#[c]⟩) where
 go:=fun i h=>by
  rw [List.length_map,Array.length_toList] at h
  exact h
 yld:=fun i x H' _ h=>by
  obtain ⟨e,c,hc,rfl⟩:=h
  exact ⟨e,by rw [List.getElem?_map,Array.getElem?_toList,hc];rfl⟩
 stop:=fun i h=>by
  rw [List.length_map,Array.length_toList] at h
  exact h
theorem src_range (lo:Int) (n:Nat) (H:Hp):Src (Itr lo n) H ((List.range n).map fun i=>V.int (lo+(i:Nat))) where
 go:=fun i h=>by
  rw [List.length_map,List.length_range] at h
  exact h
 yld:=fun i x H' hi h=>by
  obtain ⟨e,rfl⟩:=h
  rw [List.length_map,List.length_range] at hi
  exact ⟨e,by rw [List.getElem?_map,List.getElem?_range hi];rfl⟩
 stop:=fun i h=>by
  rw [List.length_map,List.length_range] at h
  exact h
theorem src_list {K:PySem.W.Frag} {H:Hp} {a:Addr} {xs:List V} (h:SqL K H a xs):Src (Itl K a) H xs where
 go:=fun i hi=>⟨xs,xs[i],h,by simp [hi]⟩
 yld:=fun i x H' _ q=>⟨q.1,q.2 xs h⟩
 stop:=fun i hi=>⟨xs,h,hi⟩
theorem src_tup {K:PySem.W.Frag} {H:Hp} {a:Addr} {xs:List V} (h:SqT K H a xs):Src (Itt K a) H xs where
 go:=fun i hi=>⟨xs,xs[i],h,by simp [hi]⟩
 yld:=fun i x H' _ q=>⟨q.1,q.2 xs h⟩
 stop:=fun i hi=>⟨xs,h,hi⟩
theorem comp_pure {α:Type} {J:It} {H:Hp} {as:List α} {v:α->V} (f:α->Bool) (e:α->V) {tt:TT} {te:TE} {Q:VK} {rest:L2.St} (S:Src J H (as.map v)) (hz:as.length<=sizeLine)
  (ht:∀ a ∈ as,∀ k:Bool->Hp->Prop,k (f a) H->tt (some (v a) :: rest) H k) (he:∀ a ∈ as,f a=true->∀ k:VK,k (e a) H->te (some (v a) :: rest) H k)
  (hq:∀ D,H D=none->Q (.ref D) (upd H D (.lst ((as.filter f).map e)))):wComp J (gName 0) tt te Q (none :: rest) H:=by
 refine ⟨fun i m σ acc H'=>H'=H/\i<=as.length/\m=as.length - i/\acc=((as.take i).filter f).map e/\∃ o,σ=o :: rest,⟨as.length,rfl,Nat.zero_le _,rfl,by simp,none,rfl⟩,?_⟩
 rintro i m σ acc H' ⟨rfl,hi,rfl,rfl,o,rfl⟩
 have hacc:(((as.take i).filter f).map e).length<=i:=by
  rw [List.length_map]
  exact Nat.le_trans (List.length_filter_le _ _) (by rw [List.length_take];exact Nat.min_le_left _ _)
 by_cases hlt:i < as.length
 ·refine .inr ⟨S.go i (by rw [List.length_map];exact hlt),fun x H1 y=>?_⟩
  obtain ⟨rfl,hx⟩:=S.yld i x H1 (by rw [List.length_map];exact hlt) y
  rw [List.getElem?_map,List.getElem?_eq_getElem hlt] at hx
  have hx':v as[i]=x:=Option.some.inj hx
  subst hx'
  have hm:as[i] ∈ as:=List.getElem_mem hlt
  have ts:as.take (i+1)=as.take i++[as[i]]:=List.take_succ_eq_append_getElem hlt
  show tt (some (v as[i]) :: rest) H1 _
  refine ht _ hm _ ?_
  cases hf:f as[i] with
  | true=>
   rw [if_pos rfl]
   refine he _ hm hf _ ⟨by omega,as.length - (i+1),by omega,rfl,hlt,rfl,?_,_,rfl⟩
   rw [ts,List.filter_append,List.map_append,List.filter_cons_of_pos hf]
   rfl
  | false=>
   rw [if_neg Bool.false_ne_true]
   refine ⟨as.length - (i+1),by omega,rfl,hlt,rfl,?_,_,rfl⟩
   rw [ts,List.filter_append,List.filter_cons_of_neg (by rw [hf];exact Bool.false_ne_true)]
   simp
 ·have ei:i=as.length:=by omega
  subst ei
  refine .inl ⟨S.stop _ (by rw [List.length_map];exact Nat.le_refl _),by omega,fun D hD=>?_⟩
  rw [List.take_length]
  exact hq D hD
theorem comp_map {α:Type} {J:It} {H:Hp} {as:List α} {v:α->V} (e:α->V) {te:TE} {Q:VK} {rest:L2.St} (S:Src J H (as.map v)) (hz:as.length<=sizeLine)
  (he:∀ a ∈ as,∀ k:VK,k (e a) H->te (some (v a) :: rest) H k)
  (hq:∀ D,H D=none->Q (.ref D) (upd H D (.lst (as.map e)))):wComp J (gName 0) tYes te Q (none :: rest) H:=
 comp_pure (fun _=>true) e S hz (fun a _ k hk=>hk) (fun a ha _ k hk=>he a ha k hk) fun D hD=>by
  have e1:as.filter (fun _=>true)=as:=by simp
  rw [e1];exact hq D hD
section
variable {X:Cx} {st:Stmt} {t:TS}
def tMid (t:TS):TS:=fun D σ H=>∃ M:L2.St->Hp->Prop,t { D with nx:=M } σ H/\∀ σ' H',M σ' H'->D.nx σ' H'
theorem ps_mid (h:PS X st t):PS X st (tMid t):=by
 intro pins s σ H D I hw
 obtain ⟨M,h1,h2⟩:=hw
 refine thn (h pins s σ H { D with nx:=M } I h1) fun f s' q=>?_
 cases f with
 | next=>
  obtain ⟨σ',H',I',m⟩:=q
  exact ⟨σ',H',I',h2 _ _ m⟩
 | ret v=>exact q
 | brk=>exact q
 | cont=>exact q
end
theorem szl:(sizeLine:Nat)=16777216:=sizeLine_eq
theorem few {n:Nat} (h:n<=100000):n<=sizeLine:=by rw [szl];omega
theorem fewer {n:Nat} (h:n<=100000):n < sizeLine:=by rw [szl];omega
end L3
namespace Vm
open PySem L2 L3
def Al (c:Nat):Prop:=97<=c/\c<=122
structure Good (z:Str):Prop where
 lo:1<=z.length
 hi:z.length<=12
 al:∀ c ∈ z.cps.toList,Al c
def letters:Str := "abcdefghijklmnopqrstuvwxyz"
theorem letters_cps:letters.cps.toList=(List.range 26).map (97+·):=by decide +kernel
theorem mem_letters {c:Nat}:c ∈ letters.cps.toList ↔ Al c:=by
 rw [letters_cps,List.mem_map]
 unfold Al
 constructor
 ·rintro ⟨i,hi,rfl⟩
  have:=List.mem_range.mp hi
  omega
 ·intro h
  exact ⟨c - 97,List.mem_range.mpr (by omega),by omega⟩
theorem clen (z:Str):z.cps.toList.length=z.length:=by simp [Str.length]
theorem Good.small {z:Str} (g:Good z):z.length<=sizeLine:=few (by have:=g.hi;omega)
def onlyB (z y:Str):Bool:=z.cps.toList.all fun c=>decide (c ∈ y.cps.toList)
def wordB (z:Str):Bool:=decide (1<=z.length/\z.length<=12) && onlyB z letters
theorem wordB_iff {z:Str}:wordB z=true ↔ Good z:=by
 unfold wordB onlyB
 rw [Bool.and_eq_true,decide_eq_true_eq,List.all_eq_true]
 constructor
 ·rintro ⟨⟨h1,h2⟩,h3⟩
  exact ⟨h1,h2,fun c hc=>mem_letters.mp (of_decide_eq_true (h3 c hc))⟩
 ·rintro ⟨h1,h2,h3⟩
  exact ⟨⟨h1,h2⟩,fun c hc=>decide_eq_true (mem_letters.mpr (h3 c hc))⟩
def placesB (a b:List Nat):List Nat:=(List.range a.length).filter fun i=>!decide (a[i]?=b[i]?)
def alikeB (a b:List Nat):Bool:=if a.length=b.length then decide ((placesB a b).length=1) else false
theorem mk_list (l:List Nat):(⟨l.toArray⟩:Str).cps.toList=l:=by simp
theorem mk_len (l:List Nat):(⟨l.toArray⟩:Str).length=l.length:=by
 show l.toArray.size=_
 rw [List.size_toArray]
theorem take_min {α:Type} (l:List α) (n:Nat):l.take (min n l.length)=l.take n:=by
 by_cases h:n<=l.length
 ·rw [Nat.min_eq_left h]
 ·rw [Nat.min_eq_right (by omega),List.take_of_length_le (Nat.le_refl l.length),List.take_of_length_le (l:=l) (i:=n) (by omega)]
theorem drop_min {α:Type} (l:List α) (n:Nat):l.drop (min n l.length)=l.drop n:=by
 by_cases h:n<=l.length
 ·rw [Nat.min_eq_left h]
 ·rw [Nat.min_eq_right (by omega),List.drop_of_length_le (Nat.le_refl l.length),List.drop_of_length_le (l:=l) (i:=n) (by omega)]
theorem cutL_take (l:List Nat) (n:Nat):cutL l none (some (n:Int))=l.take n:=by
 unfold cutL
 rw [HT.sIx_none,HT.sIx_nat,List.drop_zero,Nat.sub_zero,take_min]
theorem cutL_drop (l:List Nat) (n:Nat):cutL l (some (n:Int)) none=l.drop n:=by
 unfold cutL
 rw [HT.sIx_none,HT.sIx_nat,drop_min]
 exact List.take_of_length_le (by rw [List.length_drop];omega)
theorem al_mod (n:Nat) (h:n < 26):Al (97+n):=by unfold Al;omega
theorem app_list (a b:Str):(a++b).cps.toList=a.cps.toList++b.cps.toList:=by
 show (a.cps++b.cps).toList=_
 simp
theorem app_len (a b:Str):(a++b).length=a.length+b.length:=by
 show (a.cps++b.cps).size=_
 rw [Array.size_append];rfl
end Vm
namespace L3
open PySem PySem.Spec PyProof.Rows L2
open Builtin Builtin.Str
section
variable {X:Cx}
theorem vals_values:∀ l:List (Str × Tok),Vals ((l.map (·.1)).map V.str) (strValues l)
 | []=>.nil
 | (z,t) :: r=>.cons ⟨t,rfl⟩ (vals_values r)
def rSplit:V->List V->Hp->VK->Prop:=fun x vs H Q=>∃ z y,x=.str z/\vs=[.str y]/\1<=y.length/\z.length<=1000000/\∀ p,H p=none->Q (.ref p) (upd H p (.lst ((Txt.split z y).map V.str)))
theorem mt_split:MtR X "str.split" rSplit:=by
 intro pins s σ H x xs v us Q I rx rv h
 obtain ⟨z,y,rfl,rfl,hy,hz,q⟩:=h
 obtain ⟨t,rfl⟩:=rx
 obtain ⟨u,rfl,ru⟩:=rv.one
 obtain ⟨t',rfl⟩:=ru
 have hs:=szl
 have hy':(y.length == 0)=false:=by
  rw [beq_eq_false_iff_ne];omega
 have hlen:=PyProof.Rows.split_le z y
 have fin:∀ (l:List (Str × Tok)) (k:Nat),l.map (·.1)=Txt.split z y->EP X pins σ Q (.ref s.heap.objs.size) { s with heap:=s.heap.push { cls:=.type "list",data:=.seq (strValues l).toArray },toks:=k }:=fun l k e=>by
  have hv:Vals ((Txt.split z y).map V.str) (strValues l):=by rw [<-e];exact vals_values l
  exact ⟨.ref _,_,I.lnew (t':=k) hv (by rw [List.length_map];omega),rfl,q _ I.fresh⟩
 have hn:(partsBetween z (occurrences z y 0 z.length (z.length+1)) y.length).length<=sizeLine:=by
  have h1:=StrLaws.occ_length_le z y 0 z.length (z.length+1)
  unfold partsBetween
  simp only [List.length_map,List.length_zip,List.length_cons,List.length_append,List.length_singleton]
  omega
 cases h1:(decide (z.length < y.length) || decide (strKind z < strKind y))
 ·cases hf:(occurrences z y 0 z.length (z.length+1)).isEmpty
  ·refine call_meets F.slot_str_split (typeIs_str _ _ _) F.entry_str_split (F.args_str_split_2 _ _) (meets_str_split_sep z y t t' h1 hy' hf (by omega) hn) ?_
   show EP X pins σ Q (.ref s.heap.objs.size) { s with toks:=_,heap:=s.heap.push { cls:=.type "list",data:=.seq (strsFrom s.toks (partsBetween z (occurrences z y 0 z.length (z.length+1)) y.length)).toArray } }
   rw [strsFrom_eq]
   exact fin (numbered s.toks _) _ ((numbered_texts _ _).trans ((if_neg (ne_true_of_eq_false h1)).trans (if_neg (ne_true_of_eq_false hf))).symm)
  ·refine call_meets F.slot_str_split (typeIs_str _ _ _) F.entry_str_split (F.args_str_split_2 _ _) (meets_str_split_not_found z y t t' h1 hy' hf) ?_
   exact fin [(z,t)] s.toks ((if_neg (ne_true_of_eq_false h1)).trans (if_pos hf)).symm
 ·refine call_meets F.slot_str_split (typeIs_str _ _ _) F.entry_str_split (F.args_str_split_2 _ _) (meets_str_split_cannot_occur z y t t' h1) ?_
  exact fin [(z,t)] s.toks (if_pos h1).symm
end
end L3
namespace Vm
open PySem L2 L3
def joinL (c:Nat):List (List Nat)->List Nat
 | []=>[]
 | [l]=>l
 | l :: m :: r=>l++c :: joinL c (m :: r)
def splitL (c:Nat):List Nat->List (List Nat)
 | []=>[[]]
 | x :: r=>if x=c then [] :: splitL c r else match splitL c r with | []=>[[x]] | h :: t=>(x :: h) :: t
theorem splitL_app {c:Nat}:∀ {l:List Nat} (r:List Nat),c ∉ l->splitL c (l++c :: r)=l :: splitL c r
 | [],r,_=>by
  show splitL c (c :: r)=_
  unfold splitL
  rw [if_pos rfl]
  cases r <;> rfl
 | x :: l,r,h=>by
  have hx:x ≠ c:=fun e=>h (by rw [e];exact List.mem_cons_self)
  show splitL c (x :: (l++c :: r))=_
  conv=>lhs;unfold splitL
  rw [if_neg hx,splitL_app r fun m=>h (List.mem_cons_of_mem _ m)]
theorem splitL_free {c:Nat}:∀ {l:List Nat},c ∉ l->splitL c l=[l]
 | [],_=>rfl
 | x :: l,h=>by
  have hx:x ≠ c:=fun e=>h (by rw [e];exact List.mem_cons_self)
  conv=>lhs;unfold splitL
  rw [if_neg hx,splitL_free fun m=>h (List.mem_cons_of_mem _ m)]
theorem split_join {c:Nat}:∀ {ls:List (List Nat)},ls ≠ []->(∀ l ∈ ls,c ∉ l)->splitL c (joinL c ls)=ls
 | [],h,_=>absurd rfl h
 | [l],_,h=>splitL_free (h l List.mem_cons_self)
 | l :: m :: r,_,h=>by
  show splitL c (l++c :: joinL c (m :: r))=_
  rw [splitL_app _ (h l List.mem_cons_self),split_join (ls:=m :: r) (fun e=>nomatch e) fun x hx=>h x (List.mem_cons_of_mem _ hx)]
theorem glue_list (c:Nat):∀ ws:List Str,(Txt.join ⟨#[c]⟩ ws).cps.toList=joinL c (ws.map fun z=>z.cps.toList)
 | []=>rfl
 | [z]=>by
  show (Builtin.Str.glued ⟨#[c]⟩ [z]).cps.toList=_
  unfold Builtin.Str.glued
  simp [joinL]
 | z :: y :: r=>by
  have go:∀ (l:List Str) (acc:Array Nat),(l.foldl (fun acc p=>acc++(⟨#[c]⟩:Str).cps++p.cps) acc).toList=acc.toList++(l.map fun z=>c :: z.cps.toList).flatten:=by
   intro l
   induction l with
   | nil=>intro acc;simp
   | cons a b ih=>intro acc;rw [List.foldl_cons,ih];simp
  have go2:∀ (l:List Str) (y:Str),y.cps.toList++(l.map fun z=>c :: z.cps.toList).flatten=joinL c ((y :: l).map fun z=>z.cps.toList):=by
   intro l
   induction l with
   | nil=>intro y;simp [joinL]
   | cons a b ih=>
    intro y
    rw [List.map_cons,List.flatten_cons,List.map_cons,List.map_cons]
    show _=y.cps.toList++c :: joinL c (a.cps.toList :: b.map fun z=>z.cps.toList)
    have e:=ih a
    rw [List.map_cons] at e
    rw [<-e]
    simp
  show (Builtin.Str.glued ⟨#[c]⟩ (z :: y :: r)).cps.toList=_
  unfold Builtin.Str.glued
  rw [List.drop_one,List.tail_cons]
  rw [go,<-go2 (y :: r) z]
  rfl
theorem sjoin_list (c:Nat) (ws:List Str):(Str.join ⟨#[c]⟩ ws).cps.toList=joinL c (ws.map fun z=>z.cps.toList):=by
 have e:=PyProof.Rows.join_plain_closes ⟨#[c]⟩ ws
 rw [<-eq_of_beq e]
 exact glue_list c ws
theorem split_eq (z:Str) (c:Nat):Txt.split z ⟨#[c]⟩=(splitL c z.cps.toList).map fun l=>(⟨l.toArray⟩:Str):=by
 have h1:=StrLaws.join_split z ⟨#[c]⟩
 have h2:=StrLaws.split_free z c
 have h3:Txt.split z ⟨#[c]⟩ ≠ []:=fun e=>by
  have:=PyProof.Rows.split_pos z ⟨#[c]⟩
  rw [e] at this
  exact absurd this (by decide)
 have h4:z.cps.toList=joinL c ((Txt.split z ⟨#[c]⟩).map fun z=>z.cps.toList):=by
  conv=>lhs;rw [<-h1]
  exact sjoin_list c _
 rw [h4,split_join (fun e=>h3 (List.map_eq_nil_iff.mp e)) fun l hl=>?_,List.map_map]
 ·have:((fun l=>(⟨List.toArray l⟩:Str)) ∘ fun z:Str=>z.cps.toList)=id:=by funext z;exact str_mk z
  rw [this,List.map_id]
 ·obtain ⟨p,hp,rfl⟩:=List.mem_map.mp hl
  exact h2 p hp
end Vm
namespace L3
open PySem PySem.Spec PyProof.Rows L2
abbrev fra (l:List Env):List Addr:=L2.frs l
structure Exc (h:Heap) (e T C:Addr) (fl:Value):Prop where
 ob:∃ vs,h.get? e=some { cls:=.ref C,data:=.fields vs }/\vs[1]?=some (.ref T)
 tb:∃ oT ts,h.get? T=some oT/\oT.data=.fields ts/\ts[3]?=some fl
 ne:T ≠ e
structure Kpt (S fs:List Addr) (h h':Heap):Prop where
 keep:∀ b o,h.get? b=some o->b ∉ S->b ∉ fs->h'.get? b=some o
 slot:∀ b o,h.get? b=some o->b ∉ S->b ∈ fs->∃ sl,h'.get? b=some { o with slots:=sl }
theorem Kpt.trans {S fs:List Addr} {h h1 h2:Heap} (a:Kpt S fs h h1) (b:Kpt S fs h1 h2):Kpt S fs h h2:=
 ⟨fun c o e n m=>b.keep c o (a.keep c o e n m) n m,fun c o e n m=>by
  obtain ⟨sl,e1⟩:=a.slot c o e n m
  obtain ⟨sl2,e2⟩:=b.slot c _ e1 n m
  exact ⟨sl2,e2⟩⟩
theorem Kpt.mono {S S' fs:List Addr} {h h':Heap} (a:Kpt S fs h h') (k:∀ b ∈ S,b ∈ S'):Kpt S' fs h h':=
 ⟨fun c o e n m=>a.keep c o e (fun z=>n (k c z)) m,fun c o e n m=>a.slot c o e (fun z=>n (k c z)) m⟩
theorem Kpt.any {S fs:List Addr} {h h':Heap} (a:Kpt S fs h h') {b:Addr} {o:Obj} (e:h.get? b=some o) (n:b ∉ S):∃ sl,h'.get? b=some { o with slots:=sl }:=by
 by_cases m:b ∈ fs
 ·exact a.slot b o e n m
 ·exact ⟨o.slots,a.keep b o e n m⟩
theorem Kpt.funs {S fs:List Addr} {h h' base:Heap} {l:List Env} (a:Kpt S fs h h') (hl:h.FunFrames base l) (hn:∀ b ∈ S,b ∉ fra l):h'.FunFrames base l:=by
 have go:∀ (l':List Env),(∀ b ∈ fra l',b ∈ fra l)->h.FunFrames base l'->h'.FunFrames base l':=by
  intro l'
  induction l' with
  | nil=>intro _ _;trivial
  | cons env r ih=>
   intro hs hl'
   obtain ⟨hk,⟨L,o,hf,h0,ho,hd⟩,hr⟩:=hl'
   have hL:L ∈ fra (env :: r):=by unfold fra frs;rw [List.filterMap_cons,hf];exact List.mem_cons_self
   obtain ⟨sl,e⟩:=a.any ho fun z=>hn L z (hs L hL)
   exact ⟨hk,⟨L,_,hf,h0,e,hd⟩,ih (fun b hb=>hs b (by unfold fra frs;rw [List.filterMap_cons,hf];exact List.mem_cons_of_mem _ hb)) hr⟩
 exact go l (fun _ z=>z) hl
section
variable {M:Model} {A:Around} {E:Value->Shared->Prop} {s:Shared}
theorem not_frame {base:Heap} {l:List Env} {b:Addr} {o:Obj} {vs:Array Value} (hl:s.heap.FunFrames base l) (e:s.heap.get? b=some o) (d:o.data=.fields vs):b ∉ fra l:=fun z=>by
 obtain ⟨_,o',e',d'⟩:=hl.mem z
 rw [e] at e'
 cases e'
 exact d' vs d
theorem entry_new {base:Heap} {env:Env} {outer:List Env} {L e:Addr} {c head:Value} {vs:Array Value} {hadNext:Bool} {Q:Unit->Shared->Prop} (hfr:A.frames=some (env :: outer)) (hl:s.heap.FunFrames base (env :: outer)) (hf:env.frame=some L)
  (he:s.heap.get? e=some { cls:=c,data:=.fields vs }) (hz:1 < vs.size)
  (hQ:∀ h' T,s.heap.objs.size<=T->h'.get? e=some { cls:=c,data:=.fields (vs.setIfInBounds 1 (.ref T)) }->(∃ oT ts,h'.get? T=some oT/\oT.data=.fields ts/\ts[3]?=some (rawInt L))->Kpt [e] (fra (env :: outer)) s.heap h'->Q () { s with heap:=h' }) :
  wpAny M A (do let a <-frameOf env;let pl <-entryPlaceOf L hadNext;let b <-EntryCells.newEntry head a .none (rawInt L) .none pl;setField (.ref e) 1 b) Q E s:=by
 have nfr:e ∉ fra (env :: outer):=not_frame hl he rfl
 refine wpAny_bind (wpAny_frameOf_fun hfr hl hf fun k1 so=>?_)
 refine wpAny_bind (wpAny_entryPlaceOf fun pl ip=>?_)
 unfold EntryCells.newEntry newFields
 refine wpAny_bind (wpAny_newObj_type ?_ (ip.sizeOk5 _ _ _ _ _))
 generalize hob:({ cls:=.type "traceback",dict:=none,data:=.fields ([head,.ref L,.none,rawInt L,.none]++(if pl.isEmpty then List.replicate 6 Value.none else pl)).toArray }:Obj)=ob
 have e1:k1.get? e=some { cls:=c,data:=.fields vs }:=(so.2.1 e nfr).trans he
 have e2:=Heap.get?_push_of_some (h:=k1) ob e1
 have nT:k1.objs.size ≠ e:=Nat.ne_of_gt (Heap.lt_size e1)
 refine wpAny_setField e2 rfl hz (hQ _ k1.objs.size (Nat.le_of_eq so.1.symm) ?_ ?_ ⟨fun b o eb nb mb=>?_,fun b o eb nb mb=>?_⟩)
 ·exact Heap.get?_update_self _ e2 rfl
 ·refine ⟨ob,([head,.ref L,.none,rawInt L,.none]++(if pl.isEmpty then List.replicate 6 Value.none else pl)).toArray,?_,by rw [<-hob],by simp⟩
  rw [Heap.get?_update_other _ _ (Ne.symm nT)]
  exact Heap.get?_push_size k1 (by rw [<-hob];rfl)
 ·have nb':b ≠ e:=fun z=>nb (by rw [z];exact List.mem_cons_self)
  rw [Heap.get?_update_other _ _ (Ne.symm nb')]
  exact Heap.get?_push_of_some _ ((so.2.1 b mb).trans eb)
 ·have nb':b ≠ e:=fun z=>nb (by rw [z];exact List.mem_cons_self)
  obtain ⟨sl,q⟩:=so.2.2 b o eb
  exact ⟨sl,by rw [Heap.get?_update_other _ _ (Ne.symm nb')];exact Heap.get?_push_of_some _ q⟩
theorem set1 {vs:Array Value} {v:Value} (h:1 < vs.size):(vs.setIfInBounds 1 v)[1]?=some v:=by simp [h]
theorem note_new {base:Heap} {env:Env} {outer:List Env} {L e C:Addr} {vs:Array Value} {Q:Unit->Shared->Prop} (hfr:A.frames=some (env :: outer)) (hl:s.heap.FunFrames base (env :: outer)) (hf:env.frame=some L)
  (he:s.heap.get? e=some { cls:=.ref C,data:=.fields vs }) (h1:vs[1]?=some .none)
  (hQ:∀ h' T,s.heap.objs.size<=T->Exc h' e T C (rawInt L)->Kpt [e] (fra (env :: outer)) s.heap h'->Q () { s with heap:=h' }):wpAny M A (noteFrame (.ref e) env) Q E s:=by
 have hz:1 < vs.size:=(Array.getElem?_eq_some_iff.mp h1).1
 unfold noteFrame
 simp only [hf]
 refine wpAny_bind (wpAny_field he rfl h1 ?_)
 rw [if_neg (by decide)]
 refine entry_new hfr hl hf he hz fun h' T hT ho ht kp=>hQ h' T hT ⟨⟨_,ho,set1 hz⟩,ht,fun z=>?_⟩ kp
 rw [z] at hT
 exact absurd (Heap.lt_size he) (Nat.not_lt.mpr hT)
theorem note_on {base:Heap} {env:Env} {outer:List Env} {L e T0 C:Addr} {Q:Unit->Shared->Prop} (hfr:A.frames=some (env :: outer)) (hl:s.heap.FunFrames base (env :: outer)) (hf:env.frame=some L) (x:Exc s.heap e T0 C .none)
  (hQ:∀ h' T,s.heap.objs.size<=T->Exc h' e T C (rawInt L)->Kpt [e,T0] (fra (env :: outer)) s.heap h'->Q () { s with heap:=h' }):wpAny M A (noteFrame (.ref e) env) Q E s:=by
 obtain ⟨⟨vs,he,h1⟩,⟨oT,ts,hT,dT,h3⟩,ne⟩:=x
 have hz:1 < vs.size:=(Array.getElem?_eq_some_iff.mp h1).1
 unfold noteFrame
 simp only [hf]
 refine wpAny_bind (wpAny_field he rfl h1 ?_)
 rw [if_pos (show (Value.ref T0 != Value.none)=true by simp)]
 refine wpAny_bind (wpAny_field hT dT h3 ?_)
 rw [if_neg (show ¬ ((Value.none == rawInt L)=true) by simp [rawInt])]
 refine wpAny_bind (wpAny_setField hT dT (Array.getElem?_eq_some_iff.mp h3).1 ?_)
 have oth:∀ b,b ≠ T0->(s.heap.update T0 (Obj.mapFields (·.setIfInBounds 3 Value.none))).get? b=s.heap.get? b:=fun b hb=>Heap.get?_update_other _ _ (Ne.symm hb)
 have k0:Kpt [e,T0] (fra (env :: outer)) s.heap (s.heap.update T0 (Obj.mapFields (·.setIfInBounds 3 Value.none))):=⟨fun b o eb nb _=>(oth b fun z=>nb (by rw [z];simp)).trans eb,fun b o eb nb _=>⟨o.slots,(oth b fun z=>nb (by rw [z];simp)).trans eb⟩⟩
 have hl':(s.heap.update T0 (Obj.mapFields (·.setIfInBounds 3 Value.none))).FunFrames base (env :: outer):=k0.funs hl fun b hb=>by
  rcases List.mem_cons.mp hb with z | z
  ·rw [z];exact not_frame hl he rfl
  ·rw [List.mem_singleton.mp z];exact not_frame hl hT dT
 refine entry_new (s:={ s with heap:=s.heap.update T0 (Obj.mapFields (·.setIfInBounds 3 Value.none)) }) hfr hl' hf ((oth e (Ne.symm ne)).trans he) hz fun h' T hle ho ht kp=>?_
 have hsz:(s.heap.update T0 (Obj.mapFields (·.setIfInBounds 3 Value.none))).objs.size=s.heap.objs.size:=Heap.size_after_update ..
 have hle':s.heap.objs.size<=T:=by rw [<-hsz];exact hle
 refine hQ h' T hle' ⟨⟨_,ho,set1 hz⟩,ht,fun z=>?_⟩ (k0.trans (kp.mono fun b hb=>by rw [List.mem_singleton.mp hb];simp))
 rw [z] at hle'
 exact absurd (Heap.lt_size he) (Nat.not_lt.mpr hle')
theorem flight_set {e T C:Addr} {fl:Value} {to:Option Addr} {Q:Unit->Shared->Prop} (x:Exc s.heap e T C fl)
  (hQ:∀ h',Exc h' e T C (to.elim Value.none fun f=>rawInt f)->(∀ b,b ≠ T->h'.get? b=s.heap.get? b)->h'.objs.size=s.heap.objs.size->Q () { s with heap:=h' }):wpAny M A (setFlight (.ref e) to) Q E s:=by
 obtain ⟨⟨vs,he,h1⟩,⟨oT,ts,hT,dT,h3⟩,ne⟩:=x
 have hz:3 < ts.size:=(Array.getElem?_eq_some_iff.mp h3).1
 unfold setFlight
 refine wpAny_bind (wpAny_field he rfl h1 ?_)
 rw [if_pos (show (Value.ref T != Value.none)=true by simp)]
 have oth:∀ b,b ≠ T->(s.heap.update T (Obj.mapFields (·.setIfInBounds 3 (to.elim Value.none fun f=>rawInt f)))).get? b=s.heap.get? b:=fun b hb=>Heap.get?_update_other _ _ (Ne.symm hb)
 refine wpAny_setField hT dT hz (hQ _ ⟨⟨vs,(oth e (Ne.symm ne)).trans he,h1⟩,⟨_,_,Heap.get?_update_self _ hT (Obj.isFreed_of_fields (Obj.data_mapFields dT _)),Obj.data_mapFields dT _,by simp [hz]⟩,ne⟩ oth (Heap.size_after_update ..))
end
section
variable {M:Model} {A:Around} {E:Value->Shared->Prop}
end
section
variable {P:Program} {w:World} {H H':Hp} {h h1 h2:Heap} {fs fs' S ex:List Addr}
theorem objOk_there {a:Addr} {o:HO} (x:ObjOk P w H h a o):∃ ob,h.get? a=some ob:=by
 cases o with
 | lst xs=>obtain ⟨_,_,_,_,e⟩:=x;exact ⟨_,e⟩
 | tup xs=>obtain ⟨_,_,_,ob,e,_⟩:=x;exact ⟨_,e⟩
 | dK kvs=>obtain ⟨_,_,_,_,o,_,_,e,_⟩:=x;exact ⟨_,e⟩
 | dT kvs=>exact False.elim x
 | set S n=>obtain ⟨o,_,_,_,e,_⟩:=x;exact ⟨_,e⟩
 | ins C dx f=>obtain ⟨_,_,_,e,_⟩:=x;exact ⟨_,e⟩
 | own y=>exact x
 | xd f=>obtain ⟨_,⟨_,_,_,e,_⟩,_⟩:=x;exact ⟨_,e⟩
 | rng lo hi=>obtain ⟨_,_,_,e⟩:=x;exact ⟨_,e⟩
 | frz ob u=>exact ⟨_,x.1⟩
 | tbl ps=>exact ⟨_,show h.get? a=some _ from x⟩
 | met f y=>exact ⟨_,show h.get? a=some _ from x⟩
 | ext φ=>exact x.2.1
theorem hok_none (k:HOk P w H h) {a:Addr} (e:h.get? a=none):H a=none:=by
 cases q:H a with
 | none=>rfl
 | some o=>
  obtain ⟨ob,z⟩:=objOk_there (k a o q)
  rw [e] at z
  cases z
theorem un_kpt (u:Un fs ex H H' h h1) (k:Kpt S fs' h1 h2) (hS:∀ b ∈ S,h.get? b=none) (hf:∀ b ∈ fs',b ∈ fs\/h.get? b=none):Un fs ex H H' h h2 where
 keep:=fun b o e n hb hx=>k.keep b o (u.keep b o e n hb hx) (fun z=>by rw [hS b z] at e;cases e) fun z=>by
  rcases hf b z with q | q
  ·exact hb q
  ·rw [q] at e;cases e
 slot:=fun b o e n hb hx=>by
  obtain ⟨sl,q⟩:=u.slot b o e n hb hx
  obtain ⟨sl',q'⟩:=k.any q fun z=>by rw [hS b z] at e;cases e
  exact ⟨sl',q'⟩
 free:=u.free
 there:=fun b o e hx=>by
  obtain ⟨o',q⟩:=u.there b o e hx
  obtain ⟨sl,q'⟩:=k.any q fun z=>by rw [hS b z] at e;cases e
  exact ⟨_,q'⟩
 tups:=u.tups
 frzs:=u.frzs
 tbls:=u.tbls
theorem hok_kpt (x:HOk P w H h1) (k:Kpt S fs' h1 h2) (hS:∀ b ∈ S,H b=none) (hf:∀ b ∈ fs',H b=none):HOk P w H h2:=fun b o e=>
 (x b o e).stay (fun c v hc q=>by
  have hn:H c ≠ none:=by
   rcases hc with z | z
   ·rw [z,e];exact fun z=>nomatch z
   ·rw [z];exact fun z=>nomatch z
  exact k.keep c v q (fun z=>hn (hS c z)) fun z=>hn (hf c z)) (fun _ q=>q) fun _ _ q=>q
end
section
variable {X:Cx} {pins:List (Addr × Obj)} {σ:L2.St} {H:Hp} {s:Shared} {S:List Addr}
theorem inv_kpt {h':Heap} {t':Nat} (I:Inv X pins σ H s) (k:Kpt S (frs X.stack) s.heap h') (h0:∀ b ∈ S,X.s₀.heap.get? b=none) (hl:∀ b ∈ S,b ≠ X.env.locals) (hc:∀ b ∈ S,∀ x c,X.env.cells.lookup x=some c->c ≠ b)
  (hp:∀ b ∈ S,∀ p ∈ X.pn++pins,p.1 ≠ b) (hn:∀ b ∈ S,H b=none):Inv X pins σ H { s with heap:=h',toks:=t' } where
 ok:=I.ok
 os:=I.os
 bare:=I.bare
 base:=un_kpt I.base k h0 fun b hb=>by
  rcases List.mem_cons.mp (I.stkSub b hb) with z | z
  ·refine .inr ?_
   rw [z]
   exact Heap.get?_none_of_le I.ok.above
  ·exact .inl z
 loc:=by
  obtain ⟨m,⟨o,es,ep,ho,r⟩,hv⟩:=I.loc
  obtain ⟨sl,q⟩:=k.any ho fun z=>hl _ z rfl
  refine ⟨m,⟨_,es,ep,q,r⟩,fun i x v e1 e2 e3=>?_⟩
  obtain ⟨u,ru,l⟩:=hv i x v e1 e2 e3
  refine ⟨u,ru,?_⟩
  rcases l with l | ⟨kk,c,e,oc,hoc,hd⟩
  ·exact .inl l
  ·obtain ⟨sl',q'⟩:=k.any hoc fun z=>hc c z x c e rfl
   exact .inr ⟨kk,c,e,_,q',hd⟩
 cell:=fun x c e=>by
  obtain ⟨v,oc,hoc,hd⟩:=I.cell x c e
  obtain ⟨sl',q'⟩:=k.any hoc fun z=>hc c z x c e rfl
  exact ⟨v,_,q',hd⟩
 free:=I.free
 freeC:=I.freeC
 pin:=fun p hp'=>by
  obtain ⟨e,n,ne,nf,d⟩:=I.pin p hp'
  refine ⟨k.keep p.1 p.2 e (fun z=>hp p.1 z p hp' rfl) (fun z=>?_),n,ne,nf,d⟩
  rcases List.mem_cons.mp (I.stkSub p.1 z) with q | q
  ·exact ne q
  ·exact nf q
 hok:=hok_kpt I.hok k hn I.stkFree
 len:=I.len
theorem inv_track {a:Addr} {o:HO} (I:Inv X pins σ H s) (h0:X.s₀.heap.get? a=none) (hl:a ≠ X.env.locals) (hc:∀ x c,X.env.cells.lookup x=some c->c ≠ a) (hp:∀ p ∈ X.pn++pins,p.1 ≠ a) (hn:H a=none)
  (ok:ObjOk X.prog X.w (upd H a o) s.heap a o):Inv X pins σ (upd H a o) s where
 ok:=I.ok
 os:=I.os
 bare:=I.bare
 base:=⟨I.base.keep,I.base.slot,fun b ob e n hx=>by rw [upd_ne fun z=>by rw [z,h0] at e;cases e];exact I.base.free b ob e n hx,I.base.there,
  fun b xs e=>by have q:=I.base.tups b xs e;rw [upd_ne (ne_of_none q hn)];exact q,fun b ob u e=>by have q:=I.base.frzs b ob u e;rw [upd_ne (ne_of_none q hn)];exact q,
  fun b ps e=>by obtain ⟨m,q⟩:=I.base.tbls b ps e;exact ⟨m,by rw [upd_ne (ne_of_none q hn)];exact q⟩⟩
 loc:=I.loc
 cell:=I.cell
 free:=by rw [upd_ne (Ne.symm hl)];exact I.free
 freeC:=fun x c e=>by rw [upd_ne (hc x c e)];exact I.freeC x c e
 pin:=fun p hp'=>by
  obtain ⟨e,n,r⟩:=I.pin p hp'
  exact ⟨e,by rw [upd_ne (hp p hp')];exact n,r⟩
 hok:=fun b u e=>by
  by_cases hb:b=a
  ·subst hb;rw [upd_same] at e;cases e;exact ok
  ·rw [upd_ne hb] at e
   exact (I.hok b u e).stay (fun _ _ _ q=>q) (fun c q=>by rw [upd_ne (ne_of_none q hn)];exact q) fun c xs q=>by rw [upd_ne (ne_of_none q hn)];exact q
 len:=I.len
end
def CXv (P:Program) (w:World):CXT:=fun outer H s E e s'=>∃ (ea T C:Addr) (H':Hp),e=.ref ea/\Exc s'.heap ea T C .none/\s.heap.get? ea=none/\s.heap.get? T=none/\H' ea=none/\H' T=none ∧
 s'.os=s.os/\AllBare s'.gens/\Un (frs outer) [] H H' s.heap s'.heap/\HOk P w H' s'.heap/\E (.ref C) none H'
def Lands (X:Cx) (E:XK):Prop:=∀ (pins:List (Addr × Obj)) (σ:L2.St) (H:Hp) (s:Shared) (h':Heap) (ea C:Addr) (vs:Array Value),Inv X pins σ H s->(∀ b o,s.heap.get? b=some o->h'.get? b=some o)->s.heap.get? ea=none →
 h'.get? ea=some { cls:=.ref C,data:=.fields vs }->vs[1]?=some .none->E (.ref C) none H->X.xe (.ref ea) { s with heap:=h' }
section
variable {P:Program} {w:World} {K:PySem.W.Frag} {mg:Str->Option Value} {base:Heap} {N:List Str} {qual:Str} {scope:Scope} {f:Addr} {cd:Value} {A:Around} {outer:List Env} {s0:Shared} {H0:Hp} {E:XK}
theorem old_none {X:Cx} {pins:List (Addr × Obj)} {σ:L2.St} {H:Hp} {s:Shared} (I:Inv X pins σ H s) (hex:X.ex=[]) {b:Addr} (e:s.heap.get? b=none):X.s₀.heap.get? b=none:=by
 cases q:X.s₀.heap.get? b with
 | none=>rfl
 | some o=>
  obtain ⟨o',z⟩:=I.base.there b o q (by rw [hex];simp)
  rw [e] at z
  cases z
theorem size_none {h:Heap} {b:Addr} (e:h.objs.size<=b):h.get? b=none:=Heap.get?_none_of_le e
theorem lands_def:Lands (cxOf (CXv P w) P w K mg base N qual scope f cd A outer s0 H0 E) E:=by
 intro pins σ H s h' ea C vs I kp new ho h1 hE
 have I':=I.kept (t':=s.toks) (h':=h') kp
 have st:=I'.stack
 show wpAny (model P w) (A.deeper (envOfC qual scope s0.heap.objs.size f cd)) (leaving (envOfC qual scope s0.heap.objs.size f cd) (.ref ea)) _ _ { s with heap:=h' }
 unfold leaving
 refine wpAny_bind (note_new (s:={ s with heap:=h' }) (base:=base) (outer:=outer) (L:=s0.heap.objs.size) I'.ok.frames st rfl ho h1 fun k1 T hT x1 kp1=>?_)
 refine flight_set (to:=none) x1 fun k2 x2 oth sz=>?_
 have nT:∀ b o,h'.get? b=some o->b ≠ T:=fun b o e z=>by
  rw [z] at e
  exact absurd (Heap.lt_size e) (Nat.not_lt.mpr hT)
 have kp2:Kpt [ea] (frs ((cxOf (CXv P w) P w K mg base N qual scope f cd A outer s0 H0 E).stack)) h' k2:=⟨fun b o e n m=>(oth b (nT b o e)).trans (kp1.keep b o e n m),fun b o e n m=>by
  obtain ⟨sl,q⟩:=kp1.slot b o e n m
  exact ⟨sl,(oth b (nT b o e)).trans q⟩⟩
 have n0:s0.heap.get? ea=none:=old_none I rfl new
 have hne:H ea=none:=hok_none I.hok new
 have n1:h'.get? T=none:=size_none hT
 have hnT:H T=none:=hok_none I'.hok n1
 have hs:∀ b ∈ [ea],s0.heap.get? b=none:=fun b hb=>by rw [List.mem_singleton.mp hb];exact n0
 refine ⟨ea,T,C,H,rfl,x2,n0,old_none I' rfl n1,hne,hnT,I.os,I.bare,un_kpt I'.base kp2 hs fun b hb=>?_,hok_kpt I'.hok kp2 (fun b hb=>by rw [List.mem_singleton.mp hb];exact hne) I'.stkFree,hE⟩
 rcases List.mem_cons.mp (I'.stkSub b hb) with z | z
 ·exact .inr (by rw [z];exact size_none I.ok.above)
 ·exact .inl z
theorem passes_def:Passes (CXv P w) (cxOf (CXv P w) P w K mg base N qual scope f cd A outer s0 H0 E) E:=by
 intro pins σ H s e s' I hx
 obtain ⟨ea,T0,C,H',rfl,x,n1,n2,t1,t2,os,bare,un,hok,hE⟩:=hx
 have I':Inv (cxOf (CXv P w) P w K mg base N qual scope f cd A outer s0 H0 E) pins σ H' s':=I.call' os un hok bare fun b z=>absurd z (by simp)
 have st:=I'.stack
 show wpAny (model P w) (A.deeper (envOfC qual scope s0.heap.objs.size f cd)) (leaving (envOfC qual scope s0.heap.objs.size f cd) (.ref ea)) _ _ s'
 unfold leaving
 refine wpAny_bind (note_on (base:=base) (outer:=outer) (L:=s0.heap.objs.size) I'.ok.frames st rfl x fun k1 T hT x1 kp1=>?_)
 refine flight_set (to:=none) x1 fun k2 x2 oth sz=>?_
 have nT:∀ b o,s'.heap.get? b=some o->b ≠ T:=fun b o e z=>by
  rw [z] at e
  exact absurd (Heap.lt_size e) (Nat.not_lt.mpr hT)
 have kp2:Kpt [ea,T0] (frs ((cxOf (CXv P w) P w K mg base N qual scope f cd A outer s0 H0 E).stack)) s'.heap k2:=⟨fun b o e n m=>(oth b (nT b o e)).trans (kp1.keep b o e n m),fun b o e n m=>by
  obtain ⟨sl,q⟩:=kp1.slot b o e n m
  exact ⟨sl,(oth b (nT b o e)).trans q⟩⟩
 have n0:s0.heap.get? ea=none:=old_none I rfl n1
 have n3:s'.heap.get? T=none:=size_none hT
 have two:∀ {Pr:Addr->Prop},Pr ea->Pr T0->∀ b ∈ [ea,T0],Pr b:=fun {Pr} a c b hb=>by
  rcases List.mem_cons.mp hb with z | z
  ·rw [z];exact a
  ·rw [List.mem_singleton.mp z];exact c
 refine ⟨ea,T,C,H',rfl,x2,n0,old_none I' rfl n3,t1,hok_none I'.hok n3,I'.os,I'.bare,un_kpt I'.base kp2 (two n0 (old_none I rfl n2)) fun b hb=>?_,hok_kpt I'.hok kp2 (two t1 t2) I'.stkFree,hE⟩
 rcases List.mem_cons.mp (I'.stkSub b hb) with z | z
 ·exact .inr (by rw [z];exact size_none I.ok.above)
 ·exact .inl z
theorem Fun.okX {x:Str} {st:Stmt} {f:Addr} {fd:FuncData} {N ps:List Str} {k:Nat} {sp:Sp} (F:Fun K x x st f fd) (S:FnScope N ps (defScope st)) (len:∀ vs H Q E,sp vs H Q E->vs.length=ps.length)
  (hbody:∀ (cdv:Value) (A:Around) (outer:List Env) (s:Shared) (H:Hp) (vs:List V) (Q:VK) (E:XK),Room k (A.deeper (envOfC x (defScope st) s.heap.objs.size f cdv))->sp vs H Q E →
   ∃ t,PSs (cxOf (CXv P w) P w K mg base N x (defScope st) f cdv A outer s H E) (defBody st) t/\t { nx:=fun _ H'=>Q .non H',rt:=Q } (start N vs) H):FnOk P w K mg base (CXv P w) (k+1) f fd ps sp:=by
 obtain ⟨oc,od,kV,doc,pm,an,cdv,ct,osl,rfl,lk,hcd⟩:=F.ex
 exact fn_of lk hcd S len fun A outer s H vs Q E hr hsp=>hbody cdv A outer s H vs Q E hr hsp
def SpX (sp:Sp):Sp:=fun vs H Q2 E2=>∃ (Q:VK) (E:XK),(∀ v H',Rst H H' (Q v)->Q2 v H')/\(∀ c o H',Rst H H' (E c o)->E2 c o H')/\sp vs H Q E
theorem FnOk.rstX {k:Nat} {f:Addr} {fd:FuncData} {ps:List Str} {sp:Sp} (F:FnOk P w K mg base (CXv P w) k f fd ps (SpX sp)):FnOk P w K mg base (CXv P w) k f fd ps sp:=
 ⟨fun vs H Q E h=>F.len vs H (fun v H'=>Rst H H' (Q v)) (fun c o H'=>Rst H H' (E c o)) ⟨Q,E,fun _ _ z=>z,fun _ _ _ z=>z,h⟩,fun A outer s H args us vs Q E hr he hb hv hs=>
  codeAny_mono (F.run A outer s H args us vs (fun v H'=>Rst H H' (Q v)) (fun c o H'=>Rst H H' (E c o)) hr he hb hv ⟨Q,E,fun _ _ z=>z,fun _ _ _ z=>z,hs⟩) fun r s' hq=>by
   cases r with
   | error e=>
    obtain ⟨ea,T,C,H',e0,x,n1,n2,t1,t2,os,bare,un,hok,Hr,s1,s2,hn,q⟩:=hq
    exact ⟨ea,T,C,Hr,e0,x,n1,n2,s2.free t1,s2.free t2,os,bare,un_rst un s1 s2,hok_rst he.hok hok s1 s2 hn,q⟩
   | ok fl=>
    cases fl with
    | ret u=>
     obtain ⟨v,H',e1,e2,e3,e4,e5,Hr,s1,s2,hn,q⟩:=hq
     exact ⟨v,Hr,e1,e2,un_rst e3 s1 s2,hok_rst he.hok e4 s1 s2 hn,e5,q⟩
    | next=>exact False.elim hq
    | brk=>exact False.elim hq
    | cont=>exact False.elim hq⟩
theorem Fun.okXR {x:Str} {st:Stmt} {f:Addr} {fd:FuncData} {N ps:List Str} {k:Nat} {sp:Sp} (F:Fun K x x st f fd) (S:FnScope N ps (defScope st)) (len:∀ vs H Q E,sp vs H Q E->vs.length=ps.length)
  (hbody:∀ (cdv:Value) (A:Around) (outer:List Env) (s:Shared) (H:Hp) (vs:List V) (Q Q2:VK) (E E2:XK),Room k (A.deeper (envOfC x (defScope st) s.heap.objs.size f cdv))->sp vs H Q E->(∀ v H',Rst H H' (Q v)->Q2 v H')->(∀ c o H',Rst H H' (E c o)->E2 c o H') →
   ∃ t,PSs (cxOf (CXv P w) P w K mg base N x (defScope st) f cdv A outer s H E2) (defBody st) t/\t { nx:=fun _ H'=>Q2 .non H',rt:=Q2 } (start N vs) H):FnOk P w K mg base (CXv P w) (k+1) f fd ps sp:=
 FnOk.rstX (Fun.okX F S (fun vs H Q2 E2 ⟨Q,E,_,_,h⟩=>len vs H Q E h) fun cdv A outer s H vs Q2 E2 hr ⟨Q,E,hq,hE,h⟩=>hbody cdv A outer s H vs Q Q2 E E2 hr h hq hE)
end
theorem exc_obj {K:PySem.W.Frag} {h:Heap} {C:Addr} {bmB:List Value} {newId:String} (X:K.In h) (q:PySem.W.excIn K C bmB newId=true) :
  ∃ bm N nm qn bs hd sn sub ab col dd k0 k1 k2 k3 k5 mN,K.lookup C=some (excClassObj nm qn C N bs bm hd sn sub ab col dd k0 k1 k2 k3 k5 newId)/\h.Ns N mN/\mN "__init__" = none/\PySem.W.tailIn K bmB bm=true:=by
 unfold PySem.W.excIn at q
 cases e1:K.lookup C with
 | none=>rw [e1] at q;cases q
 | some ob=>
  rw [e1] at q
  obtain ⟨cl,dd,dt,sl⟩:=ob
  split at q
  ·rename_i dd' cd sl' hq
   cases hq
   split at q
   ·rename_i C' bm k0 k1 k2 k3 n k5 hm hs
    simp only [Bool.and_eq_true,beq_iff_eq,Bool.not_eq_true'] at q
    obtain ⟨⟨⟨⟨⟨rfl,rfl⟩,hdel⟩,ht⟩,hok⟩,hni⟩:=q
    obtain ⟨nm,bs,mro,ns,qn,hd,sn,sub,ab,col,del⟩:=cd
    dsimp only at hm hdel hok hni
    subst hm hdel
    have hsl:sl=#[k0,k1,k2,k3,some (.builtin n),k5]:=by
     cases sl
     exact congrArg Array.mk hs
    subst hsl
    exact ⟨bm,ns,nm,qn,bs,hd,sn,sub,ab,col,dd,k0,k1,k2,k3,k5,_,rfl,.of_isNs (PySem.W.isNs_of_in X hok),PySem.W.nsMap_none_of_in X hok hni,ht⟩
   ·cases q
  ·cases q
def vmro:List Value:=[.type "ValueError",.type "Exception",.type "BaseException",.type "object"]
abbrev VEx (K:PySem.W.Frag) (C:Addr):Prop:=PySem.W.excIn K C vmro "ValueError.__new__" = true
section
variable {X:Cx} {x:Str} {C:Addr} {a:Expr} {ta:TE} {E:XK} {np cpos pos:Pos}
def tRaise (C:Addr) (ta:TE) (E:XK):TS:=fun _ σ H=>tCons ta tNil σ H fun vs H1=>vs.length<=sizeLine/\E (.ref C) none H1
theorem ps_raise (hc:X.calm=true) (hg:Gl X x) (hm:X.mg x=some (.ref C)) (hx:VEx X.K C) (L:Lands X E) (ha:PE X a ta) (hdb:(x == ("__debug__" : Str))=false:=by decide)
  (hs:starEach [a] X.env=[(false,eval a X.env)]:=by rfl) (hpl:(backTo cpos (starEach [a] X.env)).any (·.1)=false:=by rfl) :
  PS X (.Raise (some (.Call (.Name x np) [a] [] cpos)) none pos) (tRaise C ta E):=by
 intro pins s σ H D I h
 obtain ⟨bm,N,nm,qn,bs,hd,sn,sub,ab,col,dd,k0,k1,k2,k3,k5,mN,e,hN,hni,ht⟩:=exc_obj I.ok.mod.kin hx
 have T0:=PySem.W.tail_of_in I.kIn ht
 refine wpAny_Raise_call_subT (C:=C) (nm:=nm) (q:=qn) (N:=N) (bs:=bs) (bm:=bm) (hdct:=hd) (sn:=sn) (sub:=sub) (ab:=ab) (col:=col) (dd:=dd) (k0:=k0) (k1:=k1) (k2:=k2) (k3:=k3) (k5:=k5) (mN:=mN) F.excBase_ValueError (T0.hasType (by decide)) (I.ok.hd hc) hpl hni (ld_glob I hg hm ⟨rfl,?_⟩ hdb)
 have pa:PA X [a] (tCons ta tNil):=pa_cons ha pa_nil hs
 have hA:=pa cpos pins s σ H _ I h
 rw [hs] at hA ⊢
 refine Calls.evalArgs_plain (thn hA fun us s2 ⟨vs,H2,I2,r,hz,q⟩=>?_)
 refine ⟨rfl,by rw [<-r.length];exact hz,I2.kIn _ _ e,hN.keeps I2.bk,PySem.W.tail_of_in I2.kIn ht,fun h' ea hm'=>?_⟩
 obtain ⟨t,he,_,_⟩:=hm'.there
 exact L pins σ H2 s2 h' ea C _ I2 hm'.keeps hm'.new he rfl q
end
section
variable {X:Cx} {pins:List (Addr × Obj)} {σ:L2.St} {H:Hp} {s:Shared} {ea:Addr}
end
section
variable {X:Cx} {CX:CXT} {k:Nat} {f:Addr} {fd:FuncData} {ps:List Str} {sp:Sp} {fx x n c:Str} {e:Expr} {es:List Expr} {ta:TA} {p pos:Pos}
end
end L3
namespace L3
open PySem PySem.Spec PyProof.Rows L2
def EqQ (K:PySem.W.Frag) (H:Hp):Nat->V->V->Bool->Prop
 | 0,x,y,b=>flatV x=true/\flatV y=true/\b=eqV x y
 | n+1,x,y,b=>EqQ K H n x y b\/∃ (p r:Addr) (xs ys:List V) (e:Nat->Bool),x=.ref p/\y=.ref r/\((SqL K H p xs/\SqL K H r ys)\/(SqT K H p xs/\SqT K H r ys)) ∧
   (∀ (i:Nat) (x y:V),xs[i]?=some x->ys[i]?=some y->EqQ K H n x y (e i))/\b=(decide (xs.length=ys.length) && (List.range xs.length).all e)
def EqS (K:PySem.W.Frag) (H:Hp) (n:Nat) (x y:V) (b:Bool):Prop:=∃ (p r:Addr) (xs ys:List V) (e:Nat->Bool),x=.ref p/\y=.ref r/\((SqL K H p xs/\SqL K H r ys)\/(SqT K H p xs/\SqT K H r ys)) ∧
   (∀ (i:Nat) (x y:V),xs[i]?=some x->ys[i]?=some y->EqQ K H n x y (e i))/\b=(decide (xs.length=ys.length) && (List.range xs.length).all e)
theorem EqS.q {K:PySem.W.Frag} {H:Hp} {n:Nat} {x y:V} {b:Bool} (h:EqS K H n x y b):EqQ K H (n+1) x y b:=.inr h
theorem EqQ.flat {K:PySem.W.Frag} {H:Hp} {x y:V} (hx:flatV x=true) (hy:flatV y=true):∀ n,EqQ K H n x y (eqV x y)
 | 0=>⟨hx,hy,rfl⟩
 | n+1=>.inl (EqQ.flat hx hy n)
theorem eqV_self {x:V} (h:flatV x=true):eqV x x=true:=by
 cases x with
 | non=>rfl
 | bl b=>show (b == b)=true;simp
 | int b=>show (b == b)=true;simp
 | str b=>show (b == b)=true;simp
 | _=>exact absurd (show false=true from h) Bool.false_ne_true
theorem EqQ.self {K:PySem.W.Frag} {H:Hp} {x:V} (hx:flatV x=true) (n:Nat):EqQ K H n x x true:=by
 have:=EqQ.flat (K:=K) (H:=H) hx hx n
 rw [eqV_self hx] at this;exact this
theorem all_true (n:Nat):(List.range n).all (fun _=>true)=true:=by simp
theorem EqS.yes {K:PySem.W.Frag} {H:Hp} {n:Nat} {p r:Addr} {xs ys:List V} (h:(SqL K H p xs/\SqL K H r ys)\/(SqT K H p xs/\SqT K H r ys)) (hl:xs.length=ys.length) (he:∀ (i:Nat) (x y:V),xs[i]?=some x->ys[i]?=some y->EqQ K H n x y true):EqS K H n (.ref p) (.ref r) true:=
 ⟨p,r,xs,ys,fun _=>true,rfl,rfl,h,he,by rw [decide_eq_true hl,all_true];rfl⟩
theorem EqS.strs {K:PySem.W.Frag} {H:Hp} {p r:Addr} {xs ys:List Str} (h:(SqL K H p (xs.map V.str)/\SqL K H r (ys.map V.str))\/(SqT K H p (xs.map V.str)/\SqT K H r (ys.map V.str))):EqS K H 0 (.ref p) (.ref r) (decide (xs=ys)):=by
 refine ⟨p,r,_,_,fun i=>decide (xs[i]?=ys[i]?),rfl,rfl,h,fun i x y hx hy=>?_,?_⟩
 ·rw [List.getElem?_map] at hx hy
  cases ex:xs[i]? with
  | none=>rw [ex] at hx;cases hx
  | some a=>
   cases ey:ys[i]? with
   | none=>rw [ey] at hy;cases hy
   | some b=>
    rw [ex] at hx;rw [ey] at hy
    cases hx;cases hy
    refine ⟨rfl,rfl,?_⟩
    show _=(a == b)
    rw [Bool.eq_iff_iff,decide_eq_true_eq,ex,ey];simp
 ·rw [List.length_map,List.length_map,Bool.eq_iff_iff,decide_eq_true_eq,Bool.and_eq_true,decide_eq_true_eq,List.all_eq_true]
  constructor
  ·rintro rfl
   exact ⟨rfl,fun i _=>decide_eq_true rfl⟩
  ·rintro ⟨hl,ha⟩
   refine List.ext_getElem? fun i=>?_
   by_cases hi:i < xs.length
   ·exact of_decide_eq_true (ha i (List.mem_range.mpr hi))
   ·rw [List.getElem?_eq_none (by omega),List.getElem?_eq_none (by omega)]
section
variable {X:Cx} {pins:List (Addr × Obj)} {σ:L2.St} {H:Hp} {s:Shared}
theorem eqq_self (I:Inv X pins σ H s):∀ {n:Nat} {x:V} {b:Bool},EqQ X.K H n x x b->b=true
 | 0,x,b,h=>by
  obtain ⟨h1,_,e⟩:=h
  rw [e];exact eqV_self h1
 | n+1,x,b,h=>by
  rcases h with h | ⟨p,r,xs,ys,e,e1,e2,hq,he,rfl⟩
  ·exact eqq_self I h
  ·rw [e1] at e2;cases e2
   have exy:xs=ys:=by
    rcases hq with ⟨a,c⟩ | ⟨a,c⟩
    ·exact I.list_inj a c
    ·exact I.tuple_inj a c
   subst exy
   rw [decide_eq_true rfl,Bool.true_and,List.all_eq_true]
   intro i hi
   have hlt:=List.mem_range.mp hi
   exact eqq_self I (he i xs[i] xs[i] (List.getElem?_eq_getElem hlt) (List.getElem?_eq_getElem hlt))
theorem vals_at {xs:List V} {us:List Value} (r:Vals xs us) {j:Nat} (h:j < us.length):∃ x,xs[j]?=some x/\RelV x us[j]:=by
 have hx:j < xs.length:=by rw [r.length];exact h
 obtain ⟨u,e,q⟩:=r.get (List.getElem?_eq_getElem hx)
 rw [List.getElem?_eq_getElem h] at e
 cases e
 exact ⟨_,List.getElem?_eq_getElem hx,q⟩
theorem rng_min {a b:Nat} {e:Nat->Bool}:((List.range (min a b)).all e && a == b)=(decide (a=b) && (List.range a).all e):=by
 by_cases h:a=b
 ·subst h;simp
 ·simp [h]
theorem eqs_rc {n:Nat} {A:Around} (I:Inv X pins σ H s) (hu:A.units+1 < cLine) (ih:∀ (x y:V) (b:Bool) (u v:Value),RelV x u->RelV y v->EqQ X.K H n x y b->SeqAt.EqAt A.in1 s u v b)
  {p r:Addr} {xs ys:List V} {e:Nat->Bool} (hq:(SqL X.K H p xs/\SqL X.K H r ys)\/(SqT X.K H p xs/\SqT X.K H r ys)) (he:∀ (i:Nat) (x y:V),xs[i]?=some x->ys[i]?=some y->EqQ X.K H n x y (e i)) :
  SeqAt.RcAt A s (.ref p) (.ref r) (decide (xs.length=ys.length) && (List.range xs.length).all e):=by
 have hu':A.units < cLine:=by omega
 rcases hq with ⟨a,c⟩ | ⟨a,c⟩
 ·obtain ⟨is,r1,p1,z1⟩:=I.list a
  obtain ⟨js,r2,p2,z2⟩:=I.list c
  have l1:=r1.length
  have l2:=r2.length
  by_cases hl:xs.length=ys.length
  ·rw [decide_eq_true hl,Bool.true_and]
   have q:=SeqAt.RcAt.lists (e:=e) p1.isList p2.isList (by rw [List.size_toArray,List.size_toArray];omega) hu' fun j h1 h2=>by
    rw [List.size_toArray] at h1 h2
    obtain ⟨x,ex,rx⟩:=vals_at r1 h1
    obtain ⟨y,ey,ry⟩:=vals_at r2 h2
    rw [List.getElem_toArray,List.getElem_toArray]
    exact ih x y _ _ _ rx ry (he j x y ex ey)
   rw [List.size_toArray,<-l1] at q
   exact q
  ·rw [decide_eq_false hl,Bool.false_and]
   exact SeqAt.RcAt.lists_lengths p1.isList p2.isList (by rw [List.size_toArray,List.size_toArray];simp;omega) hu'
 ·obtain ⟨is,r1,p1,z1⟩:=I.tuple a
  obtain ⟨js,r2,p2,z2⟩:=I.tuple c
  have l1:=r1.length
  have l2:=r2.length
  have q:=SeqAt.RcAt.tuples (e:=e) p1 p2 hu' fun j h1 h2=>by
   rw [List.size_toArray] at h1 h2
   obtain ⟨x,ex,rx⟩:=vals_at r1 h1
   obtain ⟨y,ey,ry⟩:=vals_at r2 h2
   rw [List.getElem_toArray,List.getElem_toArray]
   exact ih x y _ _ _ rx ry (he j x y ex ey)
  rw [List.size_toArray,List.size_toArray,<-l1,<-l2,rng_min] at q
  exact q
theorem eqs_ne {n:Nat} {A:Around} (I:Inv X pins σ H s) (hu:A.units+1 < cLine) (ih:∀ (x y:V) (b:Bool) (u v:Value),RelV x u->RelV y v->EqQ X.K H n x y b->SeqAt.EqAt A.in1 s u v b)
  {p r:Addr} {xs ys:List V} {e:Nat->Bool} (hq:(SqL X.K H p xs/\SqL X.K H r ys)\/(SqT X.K H p xs/\SqT X.K H r ys)) (he:∀ (i:Nat) (x y:V),xs[i]?=some x->ys[i]?=some y->EqQ X.K H n x y (e i)) :
  SeqAt.RcNeAt A s (.ref p) (.ref r) (!(decide (xs.length=ys.length) && (List.range xs.length).all e)):=by
 have hu':A.units < cLine:=by omega
 rcases hq with ⟨a,c⟩ | ⟨a,c⟩
 ·obtain ⟨is,r1,p1,z1⟩:=I.list a
  obtain ⟨js,r2,p2,z2⟩:=I.list c
  have l1:=r1.length
  have l2:=r2.length
  by_cases hl:xs.length=ys.length
  ·rw [decide_eq_true hl,Bool.true_and]
   have q:=SeqAt.RcNeAt.lists (e:=e) p1.isList p2.isList (by rw [List.size_toArray,List.size_toArray];omega) hu' fun j h1 h2=>by
    rw [List.size_toArray] at h1 h2
    obtain ⟨x,ex,rx⟩:=vals_at r1 h1
    obtain ⟨y,ey,ry⟩:=vals_at r2 h2
    rw [List.getElem_toArray,List.getElem_toArray]
    exact ih x y _ _ _ rx ry (he j x y ex ey)
   rw [List.size_toArray,<-l1] at q
   exact q
  ·rw [decide_eq_false hl,Bool.false_and]
   exact SeqAt.RcNeAt.lists_lengths p1.isList p2.isList (by rw [List.size_toArray,List.size_toArray];simp;omega) hu'
 ·obtain ⟨is,r1,p1,z1⟩:=I.tuple a
  obtain ⟨js,r2,p2,z2⟩:=I.tuple c
  have l1:=r1.length
  have l2:=r2.length
  have q:=SeqAt.RcNeAt.tuples (e:=e) p1 p2 hu' fun j h1 h2=>by
   rw [List.size_toArray] at h1 h2
   obtain ⟨x,ex,rx⟩:=vals_at r1 h1
   obtain ⟨y,ey,ry⟩:=vals_at r2 h2
   rw [List.getElem_toArray,List.getElem_toArray]
   exact ih x y _ _ _ rx ry (he j x y ex ey)
  rw [List.size_toArray,List.size_toArray,<-l1,<-l2,rng_min] at q
  exact q
theorem eqq_at (I:Inv X pins σ H s):∀ {n:Nat} {A:Around} {x y:V} {b:Bool} {u v:Value},A.units+n < cLine->RelV x u->RelV y v->EqQ X.K H n x y b->SeqAt.EqAt A s u v b
 | 0,A,x,y,b,u,v,hu,rx,ry,h=>by
  obtain ⟨h1,h2,e⟩:=h
  rw [e];exact eqAt_V rx ry h1 h2
 | n+1,A,x,y,b,u,v,hu,rx,ry,h=>by
  rcases h with h | ⟨p,r,xs,ys,e,rfl,rfl,hq,he,hb⟩
  ·exact eqq_at I (by omega) rx ry h
  ·cases rx;cases ry
   by_cases hp:p=r
   ·subst hp
    have:=eqq_self I (n:=n+1) (.inr ⟨p,p,xs,ys,e,rfl,rfl,hq,he,hb⟩)
    rw [this];exact SeqAt.EqAt.same _
   ·rw [hb]
    exact SeqAt.EqAt.of_refs hp (eqs_rc I (by omega) (fun x y b u v rx ry q=>eqq_at I (A:=A.in1) (by show A.units+1+n < cLine;omega) rx ry q) hq he)
theorem op_eqS (hu:X.A.units+64 < cLine):OpR X (compareOp .Eq) (fun x y H Q=>∃ n b,n<=20/\EqS X.K H n x y b/\Q (.bl b) H):=by
 intro pins s σ H x y v u Q I rx ry h
 obtain ⟨n,b,hn,⟨p,r,xs,ys,e,rfl,rfl,hq,he,rfl⟩,q⟩:=h
 cases rx;cases ry
 exact eqs_rc I (by omega) (fun x y b u v rx ry q=>eqq_at I (A:=X.A.in1) (by show X.A.units+1+n < cLine;omega) rx ry q) hq he _ _ _ _ ⟨.bl _,H,I,rfl,q⟩
theorem op_neS (hu:X.A.units+64 < cLine):OpR X (compareOp .NotEq) (fun x y H Q=>∃ n b,n<=20/\EqS X.K H n x y b/\Q (.bl (!b)) H):=by
 intro pins s σ H x y v u Q I rx ry h
 obtain ⟨n,b,hn,⟨p,r,xs,ys,e,rfl,rfl,hq,he,rfl⟩,q⟩:=h
 cases rx;cases ry
 exact eqs_ne I (by omega) (fun x y b u v rx ry q=>eqq_at I (A:=X.A.in1) (by show X.A.units+1+n < cLine;omega) rx ry q) hq he _ _ _ _ ⟨.bl _,H,I,rfl,q⟩
end
end L3
namespace L3
open PySem PySem.Spec PyProof.Rows L2 PySem.W
section
variable {M:Model} {A:Around} {E:Value->Shared->Prop} {s:Shared}
end
section
variable {prog:Program} {w:World} {A:Around} {E:Value->Shared->Prop} {s:Shared} {K:PySem.W.Frag} {x D:Addr} {ox:Obj}
end
end L3
namespace L3
open PySem PySem.Spec PyProof.Rows L2
open PySem.W in
section
variable {X:Cx}
end
section
variable {X:Cx} {K:PySem.W.Frag}
theorem ix_listK (hK:X.K=K):IxR X (rIxL K):=by subst hK;exact ix_list
theorem ix_tupK (hK:X.K=K):IxR X (rIxT K):=by subst hK;exact ix_tup
theorem call_len_seqK (hK:X.K=K):CallR X (.builtin "len") (fun xs H Q=>∃ p ys,xs=[.ref p]/\(SqL K H p ys\/SqT K H p ys)/\Q (.int ys.length) H):=by subst hK;exact call_len_seq
end
end L3
namespace Vm
open PySem PySem.Spec PyProof.Rows L2 L3
def mkS (l:List Nat):Str:=⟨l.toArray⟩
theorem mkS_list (l:List Nat):(mkS l).cps.toList=l:=mk_list l
end Vm
namespace L3
open PySem PySem.Spec PyProof.Rows L2
section
variable {X:Cx}
theorem call_int_text:CallR X (.type "int") (fun xs H Q=>∃ (z:Str) (n:Int),xs=[.str z]/\PySem.intText? z=some n/\z.length<=640/\Q (.int n) H):=by
 intro pins s σ H xs us Q I r h
 obtain ⟨z,n,rfl,hn,hl,q⟩:=h
 obtain ⟨u,rfl,t,rfl⟩:=vals1 r
 exact PySem.W.KIN.call_text hn hl ⟨.int n,H,I.tok _,⟨_,rfl⟩,q⟩
end
end L3
namespace Vm
open PySem PySem.Spec PyProof.Rows L2 L3 PySem.NumText
def figures:Str := "0123456789"
theorem figures_cps:figures.cps.toList=(List.range 10).map (48+·):=by decide +kernel
theorem mem_figures {c:Nat}:c ∈ figures.cps.toList ↔ 48<=c/\c<=57:=by
 rw [figures_cps,List.mem_map]
 constructor
 ·rintro ⟨i,hi,rfl⟩
  have:=List.mem_range.mp hi
  omega
 ·intro h
  exact ⟨c - 48,List.mem_range.mpr (by omega),by omega⟩
theorem fold_low:∀ (l:List Nat) (acc:Nat),acc * 10 ^ l.length<=l.foldl (fun acc c=>acc * 10+(c - 48)) acc
 | [],acc=>by simp
 | c :: r,acc=>by
  rw [List.foldl_cons,List.length_cons]
  refine Nat.le_trans ?_ (fold_low r _)
  rw [Nat.pow_succ,Nat.mul_comm (10 ^ r.length) 10,<-Nat.mul_assoc]
  exact Nat.mul_le_mul_right _ (by omega)
theorem fold_high:∀ (l:List Nat) (acc:Nat),(∀ c ∈ l,48<=c/\c<=57)->l.foldl (fun acc c=>acc * 10+(c - 48)) acc < (acc+1) * 10 ^ l.length
 | [],acc,_=>by simp
 | c :: r,acc,h=>by
  rw [List.foldl_cons,List.length_cons]
  refine Nat.lt_of_lt_of_le (fold_high r _ fun d hd=>h d (List.mem_cons_of_mem _ hd)) ?_
  rw [Nat.pow_succ,Nat.mul_comm (10 ^ r.length) 10,<-Nat.mul_assoc]
  have:=h c List.mem_cons_self
  exact Nat.mul_le_mul_right _ (by omega)
theorem val_low {c:Nat} {r:List Nat} (h:48 < c):10 ^ r.length<=digitsVal (c :: r):=by
 unfold digitsVal
 rw [List.foldl_cons]
 refine Nat.le_trans ?_ (fold_low r _)
 calc 10 ^ r.length=1 * 10 ^ r.length:=(Nat.one_mul _).symm
  _<=_:=Nat.mul_le_mul_right _ (by omega)
theorem val_high {l:List Nat} (h:∀ c ∈ l,48<=c/\c<=57):digitsVal l < 10 ^ l.length:=by
 have:=fold_high l 0 h
 unfold digitsVal
 omega
def numS (n:Int):Str:=Str.ofString (toString n)
theorem numS_list (m:Nat):(numS (m:Int)).cps.toList=(Nat.toDigits 10 m).map Char.toNat:=PySem.W.KIN.signs_num m
theorem numS_digits (m:Nat):∀ c ∈ (numS (m:Int)).cps.toList,48<=c/\c<=57:=by
 intro c hc
 rw [numS_list] at hc
 obtain ⟨ch,hch,e⟩:=List.mem_map.mp hc
 rw [<-e]
 exact digit_range (Nat.isDigit_of_mem_toDigits (by decide) (by decide) hch)
theorem numS_lt (m:Nat):m < 10 ^ (numS (m:Int)).length:=by
 have h:=val_high (numS_digits m)
 rw [numS_list,PySem.W.KIN.val_back,<-numS_list,clen] at h
 exact h
theorem digits_le:∀ (k m:Nat),m < 10 ^ (k+1)->(Nat.toDigits 10 m).length<=k+1
 | 0,m,h=>by
  rw [Nat.toDigits_of_lt_base (by omega)]
  exact Nat.le_refl _
 | k+1,m,h=>by
  by_cases h9:m < 10
  ·rw [Nat.toDigits_of_lt_base h9]
   exact Nat.succ_le_succ (Nat.zero_le _)
  ·have hm:m % 10 < 10:=Nat.mod_lt m (by decide)
   have t:Nat.toDigits 10 (m / 10)++Nat.toDigits 10 (m % 10)=Nat.toDigits 10 (10 * (m / 10)+m % 10):=Nat.toDigits_append_toDigits (by decide) (by omega) hm
   rw [Nat.div_add_mod] at t
   rw [<-t,List.length_append,Nat.toDigits_of_lt_base hm]
   have h2:m / 10 < 10 ^ (k+1):=by
    rw [Nat.pow_succ] at h
    exact Nat.div_lt_of_lt_mul (by omega)
   have:=digits_le k (m / 10) h2
   show _+1<=_
   omega
theorem numS_len {n:Int} (h0:0<=n) (h1:n < 10 ^ 40):(numS n).length<=40:=by
 obtain ⟨m,rfl⟩:=Int.eq_ofNat_of_zero_le h0
 rw [<-clen,numS_list,List.length_map]
 exact digits_le 39 m (by exact_mod_cast h1)
theorem numS_pos (n:Int) (h0:0<=n):1<=(numS n).length:=by
 obtain ⟨m,rfl⟩:=Int.eq_ofNat_of_zero_le h0
 rw [<-clen,numS_list,List.length_map]
 exact toDigits_len_ge 10 m
theorem log_ok {n:Int} (h0:0<=n) (h1:n < 10 ^ 40):n.natAbs.log2 < 1920:=by
 obtain ⟨m,rfl⟩:=Int.eq_ofNat_of_zero_le h0
 rw [Int.natAbs_natCast]
 by_cases hm:m=0
 ·subst hm;decide
 ·rw [Nat.log2_lt hm]
  refine Nat.lt_of_lt_of_le (by exact_mod_cast h1:m < 10 ^ 40) ?_
  refine Nat.le_trans (show 10 ^ 40<=2 ^ 160 by decide) (Nat.pow_le_pow_right (by decide) (by decide))
def writesB (z:Str):Bool:=if z=Str.ofString "" then false else if onlyB z figures=true then decide (z=Str.ofString "0") || !decide (z.cps.toList[0]?=some 48) else false
def pnum (z:Str) (most:Int):Option Int:=if writesB z=true then (if ((digitsVal z.cps.toList:Nat):Int)<=most then some ((digitsVal z.cps.toList:Nat):Int) else none) else none
theorem only_digits {z:Str} (h:onlyB z figures=true):∀ c ∈ z.cps.toList,48<=c/\c<=57:=by
 unfold onlyB at h
 rw [List.all_eq_true] at h
 exact fun c hc=>mem_figures.mp (of_decide_eq_true (h c hc))
theorem ne_nil {z:Str} (h:z ≠ Str.ofString ""):z.cps.toList ≠ []:=fun e=>h (by
 have e2:(Str.ofString "").cps.toList=[]:=by decide +kernel
 rw [<-str_mk z,<-str_mk (Str.ofString ""),e,e2])
theorem digits_read {z:Str} (h:onlyB z figures=true) (hne:z ≠ Str.ofString "") (hl:z.length<=640):PySem.intText? z=some ((digitsVal z.cps.toList:Nat):Int):=
 intText_digits (only_digits h) (ne_nil hne) (by omega)
theorem writes_low {z:Str} (h:writesB z=true) (h2:2<=z.length):10 ^ (z.length - 1)<=digitsVal z.cps.toList:=by
 unfold writesB at h
 by_cases h0:z=Str.ofString ""
 ·rw [if_pos h0] at h;cases h
 rw [if_neg h0] at h
 by_cases h1:onlyB z figures=true
 ·rw [if_pos h1] at h
  have hd:=only_digits h1
  have hz:=clen z
  rcases Bool.or_eq_true_iff.mp h with h | h
  ·have e:=of_decide_eq_true h
   rw [e] at h2
   exact absurd h2 (by decide +kernel)
  ·cases hl:z.cps.toList with
   | nil=>exact absurd hl (ne_nil h0)
   | cons c r=>
    rw [hl] at h hd hz
    have hc:c ≠ 48:=fun e=>by rw [e] at h;simp at h
    have:=hd c List.mem_cons_self
    rw [<-hz,List.length_cons,Nat.add_sub_cancel]
    exact val_low (by omega)
 ·rw [if_neg h1] at h;cases h
theorem pnum_long {z:Str} {most:Int} {k:Nat} (hk:most < 10 ^ k) (h1:1<=k) (hl:k < z.length):pnum z most=none:=by
 unfold pnum
 by_cases h:writesB z=true
 ·rw [if_pos h,if_neg ?_]
  have:=writes_low h (by omega)
  have h3:10 ^ k<=10 ^ (z.length - 1):=Nat.pow_le_pow_right (by decide) (by omega)
  have h4:(10:Int) ^ k<=((digitsVal z.cps.toList:Nat):Int):=by exact_mod_cast Nat.le_trans h3 this
  omega
 ·rw [if_neg h]
theorem most_lt {most:Int} (h0:0<=most):most < 10 ^ (numS most).length:=by
 obtain ⟨m,rfl⟩:=Int.eq_ofNat_of_zero_le h0
 exact_mod_cast numS_lt m
def optV:Option Int->V
 | none=>.non
 | some i=>.int i
end Vm
namespace HT
open PySem PySem.Spec PyProof.Rows
section
variable {prog:Program} {w:World} {A:Around} {E:Value->Shared->Prop} {s:Shared}
theorem cut_whole {t sl:Addr} {items:Array Value} {vl vu:Value} {lo hi:Option Int} {Q:Value->Shared->Prop} (ht:IsTup s.heap t items) (hs:s.heap.IsSliceOf sl vl vu .none) (pl:IsPart vl lo) (pu:IsPart vu hi)
  (hw:sIx items.size 0 lo=0/\sIx items.size items.size hi=items.size) (h:Q (.ref t) s):wpAny (model prog w) A (getItem (.ref t) (.ref sl)) Q E s:=by
 obtain ⟨os,hos,hcs,hds⟩:=id hs
 have hTs:s.TypeIs (.ref sl) "slice" := ⟨os,hos,hcs⟩
 unfold getItem
 try with_reducible refine wpAny_holding ?_
 first | refine wpAny_bind (wpAny_pure ?_) | skip
 refine wpAny_bind (wpAny_sequenceKey ht.typeIs (by decide) ?_)
 refine wpAny_bind (wpAny_callSpecial?_slot (name:=Str.ofString "__getitem__") ht.typeIs PyProof.Rows.slot_tuple_getitem
  (wpAny_call_entry PyProof.Rows.slot_tuple_getitem ht.typeIs entry_tuple_getitem ?_ (args_tuple_getitem _ _)))
 show wpAny _ _ (Builtin.Tuple.tupleItemsOf (.ref t) >>= _) _ _ s
 refine wpAny_bind (tupleItemsOf_ ht ?_)
 refine wpAny_bind (wpAny_typeOf hTs ?_)
 rw [if_pos (by decide)]
 refine wpAny_bind (sliceApplied_gen hs pl pu ?_)
 have hyes:(((sIx items.size 0 lo:Nat):Int) == 0 && (1:Int) == 1 && (sIx items.size items.size hi - sIx items.size 0 lo) == items.size)=true:=by
  rw [hw.1,hw.2];simp
 show wpAny _ _ (if (((sIx items.size 0 lo:Nat):Int) == 0 && (1:Int) == 1 && (sIx items.size items.size hi - sIx items.size 0 lo) == items.size)=true then _ else _) _ _ s
 rw [if_pos hyes]
 unfold Builtin.Tuple.tupleIsExact
 refine wpAny_bind (wpAny_bind (wpAny_typeOf ht.typeIs (wpAny_pure ?_)))
 rw [if_pos (by decide)]
 first
  | exact wpAny_bind (wpAny_rule (wpAny_pure ⟨_,rfl,wpAny_pure h⟩))
  | exact wpAny_bind (wpAny_rule (wpAny_bind (wpAny_pure (wpAny_pure ⟨_,rfl,wpAny_pure h⟩))))
  | exact wpAny_bind (wpAny_bind (wpAny_rule (wpAny_pure (wpAny_pure ⟨_,rfl,wpAny_pure h⟩))))
end
end HT
namespace L3
open PySem PySem.Spec PyProof.Rows L2
section
variable {X:Cx}
def rSlTA (K:PySem.W.Frag):V->Option Int->Option Int->Hp->VK->Prop:=fun x lo hi H Q=>∃ (a:Addr) (xs:List V),x=.ref a/\SqT K H a xs ∧
 ((HT.sIx xs.length 0 lo=0/\HT.sIx xs.length xs.length hi=xs.length)->Q (.ref a) H)/\(¬ (HT.sIx xs.length 0 lo=0/\HT.sIx xs.length xs.length hi=xs.length)->∀ p,H p=none->Q (.ref p) (upd H p (.tup (cutV xs lo hi))))
theorem sl_tupA:SlR X (rSlTA X.K):=by
 intro pins s σ H x v vl vu lo hi sl Q I rx hs pl pu h
 obtain ⟨a,xs,rfl,hx,q1,q2⟩:=h
 by_cases hw:HT.sIx xs.length 0 lo=0/\HT.sIx xs.length xs.length hi=xs.length
 ·cases rx
  obtain ⟨its,r,ht,hz⟩:=I.tuple hx
  have hlen:its.toArray.size=xs.length:=by rw [List.size_toArray];exact r.length.symm
  refine ⟨"tuple",_,PyProof.Rows.slot_tuple_getitem.lookup,ht.typeIs,?_⟩
  exact HT.cut_whole ht hs pl pu (by rw [hlen];exact hw) ⟨.ref a,H,I,rfl,q1 hw⟩
 ·exact sl_tup pins s σ H _ v vl vu lo hi sl Q I rx hs pl pu ⟨a,xs,rfl,hx,hw,q2 hw⟩
theorem extend_tup (l b:Addr) (its its2:Array Value) (n n2:Nat) (d2:Option Addr) (sl2:Array (Option Value)) (h0:¬ (!its.isEmpty && Builtin.List.listTooLong (its.size+its2.size))=true) (h1:its.size<=sizeLine) (h2:its.size+its2.size<=sizeLine+1) :
  Meets (Builtin.«list.extend» ⟨[.ref l,.ref b],[]⟩) (fun _ R s=>(s.heap.get? l=some { cls:=.type "list",data:=.seq its n }/\s.heap.get? b=some ⟨.type "tuple",d2,.seq its2 n2,sl2⟩)/\R (.ok (.ret Value.none)) { s with heap:=s.heap.update l (Obj.mapSeq fun x=>x++its2) }):=
 .of_wp fun prog w A R s h=>by
  obtain ⟨hp,g,d,tk,os⟩:=s
  obtain ⟨⟨hl,hb⟩,h⟩:=h
  have e1:=AutoSeq1.idx_int
  have e2:=AutoSeq1.sub_tuple_tuple
  have e3:=AutoSeq1.sub_list_list
  have e4:=AutoSeq1.sub_tuple_list
  have e5:=AutoSeq1.sub_list_tuple
  have hz:(its++its2).size<=sizeLine+1:=by rw [Array.size_append];exact h2
  wp_walk using (wpAny_updateSeq hl rfl (hz:=h1) (_hz':=hz)),AutoSeq1.wpAny_loadPart' hl,AutoSeq1.wpAny_loadPart' hb
  exact ⟨_,rfl,h⟩
def rExtT (K:PySem.W.Frag):V->List V->Hp->VK->Prop:=fun x vs H Q=>∃ (l b:Addr) (xs zs:List V),x=.ref l/\vs=[.ref b]/\H l=some (.lst xs)/\SqT K H b zs/\xs.length+zs.length<=sizeLine/\Q .non (upd H l (.lst (xs++zs)))
theorem mt_extendT:MtM X "list.extend" (rExtT X.K):=by
 intro pins s σ H x vs v us Q I rx rv h
 obtain ⟨l,b,xs,zs,rfl,rfl,hH,hB,hz,q⟩:=h
 cases rx
 obtain ⟨u,rfl,ru⟩:=rv.one
 cases ru
 obtain ⟨z,its,n,r,hl,e⟩:=I.lstM hH
 obtain ⟨its2,r2,⟨o,h1,h2,n2,h3⟩,_⟩:=I.tuple hB
 obtain ⟨c,dd,dt,sl⟩:=o
 dsimp only at h2 h3
 subst h2 h3
 have l2:=r2.length
 have hsz:its.toArray.size+its2.toArray.size<=sizeLine:=by rw [List.size_toArray,List.size_toArray];omega
 have hlong:¬ (!its.toArray.isEmpty && Builtin.List.listTooLong (its.toArray.size+its2.toArray.size))=true:=by
  rw [notLongL hsz,Bool.and_false]
  exact Bool.false_ne_true
 refine call_meets PySem.F.slot_list_extend ⟨_,e,rfl⟩ PySem.F.entry_list_extend (PySem.F.args_list_extend_2 _ _) (extend_tup l b its.toArray its2.toArray n n2 dd sl hlong (by rw [List.size_toArray];omega) (by omega)) ⟨⟨e,h1⟩,?_⟩
 refine ⟨.non,_,I.lset (its':=its++its2) hH e (by simp) (r.append r2) ?_,rfl,q⟩
 rw [List.length_append]
 omega
end
end L3
namespace Vm
open PySem PySem.Spec PyProof.Rows L2 L3
theorem iteK {c A B:Prop} [Decidable c] (h:¬ c) (hb:B):if decide c=true then A else B:=by rw [decide_eq_false h];exact hb
theorem iteY {c A B:Prop} [Decidable c] (h:c) (ha:A):if decide c=true then A else B:=by rw [decide_eq_true h];exact ha
inductive Sk where
 | keep | lose | twice | swap | turn (w:Str) | add (w:Str) | skip (m:Nat)
def stepV:Sk->List V
 | .keep=>[.str (Str.ofString "keep")]
 | .lose=>[.str (Str.ofString "lose")]
 | .twice=>[.str (Str.ofString "twice")]
 | .swap=>[.str (Str.ofString "swap")]
 | .turn w=>[.str (Str.ofString "turn"),.str w]
 | .add w=>[.str (Str.ofString "add"),.str w]
 | .skip m=>[.str (Str.ofString "skip"),.int (m:Nat)]
def okS:Sk->Prop
 | .skip m=>1<=m/\m<=1000
 | .turn w=>Good w
 | .add w=>Good w
 | _=>True
def skipB (es:List Str) (d m:Nat):Bool:=decide (1<=d/\d+m<=es.length) && decide (es[d+m - 1]?=es[d - 1]?)
def fitsB (es:List Str) (d:Nat) (last:Option Str):Sk->Bool
 | .keep=>decide (d < es.length)
 | .lose=>decide (d < es.length)
 | .twice=>last.isSome
 | .swap=>decide (d+1 < es.length) && !decide (es[d]?=es[d+1]?)
 | .turn w=>decide (d < es.length) && !decide (es[d]?=some w)
 | .add _=>true
 | .skip m=>skipB es d m
def wd:Sk->Nat
 | .add _=>0
 | .twice=>0
 | .swap=>2
 | .skip m=>m
 | _=>1
def gt (es:List Str) (d:Nat):Str:=(es[d]?).getD (Str.ofString "")
def ww (es:List Str) (d:Nat) (last:Option Str):Sk->List Str
 | .lose=>[]
 | .skip _=>[]
 | .turn w=>[w]
 | .add w=>[w]
 | .twice=>last.toList
 | .swap=>[gt es (d+1),gt es d]
 | .keep=>[gt es d]
def after (es:List Str) (d:Nat) (last:Option Str) (st:Sk):Option (Nat × List Str):=if fitsB es d last st=true then some (d+wd st,ww es d last st) else none
def optS:Option Str->V
 | none=>.non
 | some z=>.str z
theorem gt_of {es:List Str} {d:Nat} (h:d < es.length):es[d]?=some (gt es d):=by
 unfold gt
 rw [List.getElem?_eq_getElem h];rfl
theorem at_w {es:List Str} {d:Nat} (h:d < es.length):atI (es.map V.str) (d:Int)=some (.str (gt es d)):=atI_nat (by rw [List.getElem?_map,gt_of h];rfl)
theorem str_dec (a b:Str):decide (V.str a=V.str b)=decide (a=b):=decide_eq_decide.mpr ⟨fun e=>by injection e,fun e=>by rw [e]⟩
theorem some_dec {es:List Str} {d:Nat} (h:d < es.length) (b:Str):decide (es[d]?=some b)=decide (gt es d=b):=by
 rw [gt_of h]
 exact decide_eq_decide.mpr ⟨fun e=>Option.some.inj e,fun e=>by rw [e]⟩
theorem gt_mem {es:List Str} {d:Nat} (h:d < es.length):gt es d ∈ es:=List.mem_of_getElem? (gt_of h)
end Vm
namespace L3
open PySem PySem.Spec PyProof.Rows L2
structure NB (X:Cx) (pins:List (Addr × Obj)) (H:Hp) (b:Addr):Prop where
 s0:X.s₀.heap.get? b=none
 loc:b ≠ X.env.locals
 cel:∀ x c,X.env.cells.lookup x=some c->c ≠ b
 pin:∀ p ∈ X.pn++pins,p.1 ≠ b
 hp:H b=none
section
variable {X:Cx} {pins:List (Addr × Obj)} {σ:L2.St} {H H':Hp} {s:Shared} {b:Addr}
theorem nb_of (I:Inv X pins σ H s) (hex:X.ex=[]) (hb:s.heap.get? b=none):NB X pins H b:=by
 refine ⟨old_none I hex hb,fun z=>?_,fun y c' ec z=>?_,fun q hq z=>?_,hok_none I.hok hb⟩
 ·obtain ⟨m,⟨o,_,_,ho,_⟩,_⟩:=I.loc
  rw [<-z,hb] at ho;cases ho
 ·obtain ⟨v,o,ho,_⟩:=I.cell y c' ec
  rw [z,hb] at ho;cases ho
 ·have:=(I.pin q hq).1
  rw [z,hb] at this;cases this
theorem NB.to (n:NB X pins H b) (h:H' b=none):NB X pins H' b:=⟨n.s0,n.loc,n.cel,n.pin,h⟩
theorem inv_nb {h':Heap} {t':Nat} {S:List Addr} (I:Inv X pins σ H s) (k:Kpt S (frs X.stack) s.heap h') (n:∀ b ∈ S,NB X pins H b):Inv X pins σ H { s with heap:=h',toks:=t' }:=
 inv_kpt I k (fun b hb=>(n b hb).s0) (fun b hb=>(n b hb).loc) (fun b hb=>(n b hb).cel) (fun b hb=>(n b hb).pin) fun b hb=>(n b hb).hp
end
def FlyN (X:Cx) (E:XK) (e:Value) (s:Shared):Prop:=∃ (pins:List (Addr × Obj)) (σ:L2.St) (H:Hp) (ea T C:Addr),e=.ref ea/\Inv X pins σ H s/\NB X pins H ea/\NB X pins H T/\E (.ref C) none H/\Exc s.heap ea T C (rawInt X.env.locals)
def Fly (X:Cx) (E:XK) (e:Value) (s:Shared):Prop:=∃ (pins:List (Addr × Obj)) (σ:L2.St) (H:Hp) (ea C:Addr),e=.ref ea/\Inv X pins σ H s/\NB X pins H ea/\E (.ref C) none H ∧
 ((∃ vs,s.heap.get? ea=some { cls:=.ref C,data:=.fields vs }/\vs[1]?=some .none)\/∃ (T:Addr) (fl:Value),Exc s.heap ea T C fl/\NB X pins H T/\(fl=.none\/fl=rawInt X.env.locals))
section
variable {X:Cx} {E:XK} {e:Value} {s:Shared}
theorem note_same {M:Model} {A:Around} {E':Value->Shared->Prop} {env:Env} {L ea T C:Addr} {Q:Unit->Shared->Prop} (hf:env.frame=some L) (x:Exc s.heap ea T C (rawInt L)) (h:Q () s):wpAny M A (noteFrame (.ref ea) env) Q E' s:=by
 obtain ⟨⟨vs,he,h1⟩,⟨oT,ts,hT,dT,h3⟩,ne⟩:=x
 unfold noteFrame
 simp only [hf]
 refine wpAny_bind (wpAny_field he rfl h1 ?_)
 rw [if_pos (show (Value.ref T != Value.none)=true by simp)]
 refine wpAny_bind (wpAny_field hT dT h3 ?_)
 rw [if_pos (beq_self_eq_true _)]
 exact wpAny_pure h
theorem fly_note {M:Model} {E':Value->Shared->Prop} {Q:Unit->Shared->Prop} (hst:X.stack=X.env :: X.outer/\X.env.frame=some X.env.locals) (hex:X.ex=[]) (F:Fly X E e s) (hQ:∀ s',FlyN X E e s'->Q () s'):wpAny M X.A (noteFrame e X.env) Q E' s:=by
 obtain ⟨pins,σ,H,ea,C,rfl,I,n1,hE,hx⟩:=F
 have fr:=I.ok.frames
 have stk:=I.stack
 rw [hst.1] at fr stk
 rcases hx with ⟨vs,ho,h1⟩ | ⟨T0,fl,x,n2,hfl⟩
 ·refine note_new (base:=X.base) (outer:=X.outer) fr stk hst.2 ho h1 fun k1 T hT x1 kp1=>hQ _ ?_
  have nT:=nb_of I hex (size_none hT)
  have kp:Kpt [ea] (frs X.stack) s.heap k1:=by rw [hst.1];exact kp1
  exact ⟨pins,σ,H,ea,T,C,rfl,inv_nb (t':=s.toks) I kp (fun b hb=>by rw [List.mem_singleton.mp hb];exact n1),n1,nT,hE,x1⟩
 ·rcases hfl with rfl | rfl
  ·refine note_on (base:=X.base) (outer:=X.outer) fr stk hst.2 x fun k1 T hT x1 kp1=>hQ _ ?_
   have nT:=nb_of I hex (size_none hT)
   have kp:Kpt [ea,T0] (frs X.stack) s.heap k1:=by rw [hst.1];exact kp1
   exact ⟨pins,σ,H,ea,T,C,rfl,inv_nb (t':=s.toks) I kp (fun b hb=>by
    rcases List.mem_cons.mp hb with z | z
    ·rw [z];exact n1
    ·rw [List.mem_singleton.mp z];exact n2),n1,nT,hE,x1⟩
  ·exact note_same hst.2 x (hQ s ⟨pins,σ,H,ea,T0,C,rfl,I,n1,n2,hE,x⟩)
theorem fly_set {M:Model} {A:Around} {E':Value->Shared->Prop} {to:Option Addr} {Q:Unit->Shared->Prop} (F:FlyN X E e s)
  (hQ:∀ s' pins σ H ea T C,e=.ref ea->Inv X pins σ H s'->NB X pins H ea->NB X pins H T->E (.ref C) none H->Exc s'.heap ea T C (to.elim Value.none fun f=>rawInt f)->Q () s'):wpAny M A (setFlight e to) Q E' s:=by
 obtain ⟨pins,σ,H,ea,T,C,rfl,I,n1,n2,hE,x⟩:=F
 refine flight_set (to:=to) x fun k2 x2 oth _=>hQ _ pins σ H ea T C rfl ?_ n1 n2 hE x2
 refine inv_nb (t':=s.toks) (S:=[T]) I ⟨fun b o eb nb _=>(oth b fun z=>nb (by rw [z];simp)).trans eb,fun b o eb nb _=>⟨o.slots,(oth b fun z=>nb (by rw [z];simp)).trans eb⟩⟩ fun b hb=>by
  rw [List.mem_singleton.mp hb];exact n2
theorem passes_fly (hst:X.stack=X.env :: X.outer/\X.env.frame=some X.env.locals) (hex:X.ex=[]):PassesOwn (model X.prog X.w) X.A X.env (Fly X E):=fun e s' F=>by
 show wpAny _ X.A (noteFrame e X.env) _ _ s'
 refine fly_note hst hex F fun s'' N=>?_
 have N':=N
 obtain ⟨pins,σ,H,ea,T,C,rfl,I,n1,n2,hE,⟨vs,he,h1⟩,_⟩:=N'
 unfold cameBackBy
 refine wpAny_bind (wpAny_field he rfl h1 ?_)
 rw [if_neg (show ¬ (Value.ref T == Value.none)=true by simp)]
 first
  | refine fly_set (to:=X.env.frame) N fun s3 pins σ H ea T C e1 I3 m1 m2 hE3 x3=>?_
  | refine wpAny_bind (wpAny_pure (fly_set (to:=X.env.frame) N fun s3 pins σ H ea T C e1 I3 m1 m2 hE3 x3=>?_))
 rw [hst.2] at x3
 exact ⟨pins,σ,H,ea,C,e1,I3,m1,hE3,.inr ⟨T,_,x3,m2,.inr rfl⟩⟩
theorem lands_fly (hex:X.ex=[]):Lands (X.wish (Fly X E)) E:=by
 intro pins σ H s h' ea C vs I kp new ho h1 hE
 have I0:=I.unwish
 exact ⟨pins,σ,H,ea,C,rfl,I0.kept (t':=s.toks) kp,nb_of I0 hex new,hE,.inl ⟨vs,ho,h1⟩⟩
end
section
variable {P:Program} {w:World} {K:PySem.W.Frag} {mg:Str->Option Value} {base:Heap} {N:List Str} {qual:Str} {scope:Scope} {f:Addr} {cd:Value} {A:Around} {outer:List Env} {s0:Shared} {H0:Hp} {E:XK}
abbrev cxF (P:Program) (w:World) (K:PySem.W.Frag) (mg:Str->Option Value) (base:Heap) (N:List Str) (qual:Str) (scope:Scope) (f:Addr) (cd:Value) (A:Around) (outer:List Env) (s0:Shared) (H0:Hp) (E:XK):Cx:=
 (cxOf (CXv P w) P w K mg base N qual scope f cd A outer s0 H0 E).wish (Fly (cxOf (CXv P w) P w K mg base N qual scope f cd A outer s0 H0 E) E)
theorem passesF:Passes (CXv P w) (cxF P w K mg base N qual scope f cd A outer s0 H0 E) E:=by
 intro pins σ H s e s' I hx
 obtain ⟨ea,T0,C,H',rfl,x,n1,n2,t1,t2,os,bare,un,hok,hE⟩:=hx
 have I0:=I.unwish
 have I':Inv (cxOf (CXv P w) P w K mg base N qual scope f cd A outer s0 H0 E) pins σ H' s':=I0.call' os un hok bare fun b z=>absurd z (by simp)
 exact ⟨pins,σ,H',ea,C,rfl,I',(nb_of I0 rfl n1).to t1,hE,.inr ⟨T0,.none,x,(nb_of I0 rfl n2).to t2,.inl rfl⟩⟩
theorem fly_leave {e:Value} {s:Shared} (F:Fly (cxOf (CXv P w) P w K mg base N qual scope f cd A outer s0 H0 E) E e s):(cxOf (CXv P w) P w K mg base N qual scope f cd A outer s0 H0 E).xe e s:=by
 show wpAny (model P w) (A.deeper (envOfC qual scope s0.heap.objs.size f cd)) (leaving (envOfC qual scope s0.heap.objs.size f cd) e) _ _ s
 unfold leaving
 refine wpAny_bind (fly_note ⟨rfl,rfl⟩ rfl F fun s'' Nn=>?_)
 refine fly_set (to:=none) Nn fun s3 pins σ H ea T C e1 I3 m1 m2 hE3 x3=>?_
 exact ⟨ea,T,C,H,e1,x3,m1.s0,m2.s0,m1.hp,m2.hp,I3.os,I3.bare,I3.base,I3.hok,hE3⟩
theorem PSs.fly {sts:List Stmt} {t:TS} (h:PSs (cxF P w K mg base N qual scope f cd A outer s0 H0 E) sts t):PSs (cxOf (CXv P w) P w K mg base N qual scope f cd A outer s0 H0 E) sts t:=fun pins s σ H D I hw=>
 wpAny_mono (h pins s σ H D (I.wish _) hw) (fun _ _ q=>q.unwish) fun _ _ z=>fly_leave z
theorem passF:PassesOwn (model P w) (cxF P w K mg base N qual scope f cd A outer s0 H0 E).A (cxF P w K mg base N qual scope f cd A outer s0 H0 E).env (cxF P w K mg base N qual scope f cd A outer s0 H0 E).xe:=passes_fly (X:=cxOf (CXv P w) P w K mg base N qual scope f cd A outer s0 H0 E) ⟨rfl,rfl⟩ rfl
theorem landsF:Lands (cxF P w K mg base N qual scope f cd A outer s0 H0 E) E:=lands_fly rfl
end
end L3
namespace L3
open PySem PySem.Spec PyProof.Rows L2
section
variable {X:Cx} {k:Nat} {f:Addr} {fd:FuncData} {ps:List Str} {sp:Sp} {fx x c:Str} {e:Expr} {es:List Expr} {ta:TA} {p pos:Pos}
end
end L3
namespace Vm
open PySem PySem.Spec PyProof.Rows L2 L3
abbrev WS:=Nat × List Str × List Nat
def walk1 (es:List Str) (x:WS) (st:Sk):Option WS:=(after es x.1 x.2.1.getLast? st).map fun y=>(y.1,x.2.1++y.2,x.2.2++[x.1])
def walk (es:List Str):List Sk->WS->Option WS
 | [],x=>some x
 | st :: r,x=>(walk1 es x st).bind (walk es r)
theorem walk_append (es:List Str):∀ (a b:List Sk) (x:WS),walk es (a++b) x=(walk es a x).bind (walk es b)
 | [],b,x=>rfl
 | st :: a,b,x=>by
  show (walk1 es x st).bind (walk es (a++b))=((walk1 es x st).bind (walk es a)).bind (walk es b)
  cases walk1 es x st with
  | none=>rfl
  | some y=>exact walk_append es a b y
theorem walk_one (es:List Str) (st:Sk) (x:WS):walk es [st] x=walk1 es x st:=by
 show (walk1 es x st).bind (walk es [])=_
 cases walk1 es x st <;> rfl
def made (es:List Str) (sts:List Sk):Option (List Str × List Nat):=(walk es sts (0,[],[])).bind fun x=>if x.1 < es.length\/40 < x.2.1.length then none else some (x.2.1,x.2.2)
theorem ww_len (es:List Str) (d:Nat) (last:Option Str) (st:Sk):(ww es d last st).length<=2:=by
 cases st with
 | twice=>cases last <;> simp [ww]
 | _=>simp [ww]
theorem after_len {es:List Str} {d:Nat} {last:Option Str} {st:Sk} {y:Nat × List Str} (h:after es d last st=some y):y.2.length<=2:=by
 unfold after at h
 split at h
 ·cases h;exact ww_len es d last st
 ·cases h
theorem walk_turn {es:List Str} {sts:List Sk} {i:Nat} {st:Sk} {d:Nat} {cp:List Str} {pl:List Nat} (hi:sts[i]?=some st) (hw:walk es (sts.take i) (0,[],[])=some (d,cp,pl)) :
  walk es (sts.take (i+1)) (0,[],[])=(after es d cp.getLast? st).map fun y=>(y.1,cp++y.2,pl++[d]):=by
 have hl:=(List.getElem?_eq_some_iff.mp hi).1
 rw [List.take_succ_eq_append_getElem hl,(List.getElem?_eq_some_iff.mp hi).2,walk_append,hw]
 exact walk_one es st _
theorem walk_stop {es:List Str} {sts:List Sk} {i:Nat} (h:walk es (sts.take i) (0,[],[])=none):made es sts=none:=by
 unfold made
 have e:sts=sts.take i++sts.drop i:=(List.take_append_drop i sts).symm
 rw [e,walk_append,h]
 rfl
structure StepsAt (K:PySem.W.Frag) (H:Hp) (ts:List Addr) (sts:List Sk):Prop where
 len:ts.length=sts.length
 item:∀ (i:Nat) (t:Addr) (st:Sk),ts[i]?=some t->sts[i]?=some st->SqT K H t (stepV st)/\okS st
theorem sameT {K:PySem.W.Frag} {H H':Hp} {a:Addr} {xs:List V} (S:Same H H') (h:SqT K H a xs):SqT K H' a xs:=by
 rcases h with (h | ⟨o,h⟩) | h
 ·exact .inl (.inl (S _ _ h))
 ·exact .inl (.inr ⟨o,S _ _ h⟩)
 ·exact .inr h
theorem ref_at {ts:List Addr} {i:Nat} {y:V} (hi:(ts.map V.ref)[i]?=some y):∃ t,ts[i]?=some t/\y=.ref t:=by
 rw [List.getElem?_map] at hi
 cases e:ts[i]? with
 | none=>rw [e] at hi;cases hi
 | some t=>rw [e] at hi;exact ⟨t,rfl,(Option.some.inj hi).symm⟩
theorem last_at {cp:List Str} (h:0 < cp.length):∃ l,cp.getLast?=some l/\atI (cp.map V.str) (-1)=some (.str l):=by
 obtain ⟨r,z,rfl⟩:∃ r z,cp=r++[z]:=⟨cp.dropLast,cp.getLast (by intro e;rw [e] at h;exact absurd h (by decide)),(List.dropLast_concat_getLast _).symm⟩
 refine ⟨z,by simp,?_⟩
 rw [List.map_append]
 exact atI_last _ _
end Vm
namespace L3
open PySem PySem.Spec PyProof.Rows L2
section
variable {prog:Program} {w:World}
structure Cursor (prog:Program) (w:World) (it t:Addr) (xs:Array Value) (St:Nat->Heap->Prop):Prop where
 stay:∀ i (h h':Heap),St i h->(∀ o,h.get? it=some o->h'.get? it=some o)->(∀ o,h.get? t=some o->h'.get? t=some o)->St i h'
 draw:∀ (A:Around) (E:Value->Shared->Prop) (s:Shared) (Q:Value->Shared->Prop) (i:Nat) (x:Value),St i s.heap->xs[i]?=some x->(∀ h',St (i+1) h'->Heap.SameBut it s.heap h'->Q x { s with heap:=h' })->wpAny (model prog w) A (Builtin.SmallTypes.nextOf (.ref it)) Q E s
 over:∀ (A:Around) (E:Value->Shared->Prop) (s:Shared) (Q:Value->Shared->Prop) (i:Nat),A.handled=none->St i s.heap->xs[i]?=none →
  (∀ h' e,Heap.ExtBut it s.heap h'->(∃ o,h'.get? e=some o/\o.cls=.type "StopIteration")->E (.ref e) { s with heap:=h' })->wpAny (model prog w) A (Builtin.SmallTypes.nextOf (.ref it)) Q E s
 lt:∀ i h,St i h->∃ o,h.get? it=some o/\∀ v,o.data ≠ .cell v
theorem cursor_tuple (it t:Addr) (xs:Array Value) (hne:t ≠ it):Cursor prog w it t xs (fun i h=>h.IsTupleIter it t i/\h.IsTuple t xs) where
 stay:=fun i h h' st k1 k2=>⟨st.1.at k1,by obtain ⟨o,e,r⟩:=st.2;exact ⟨o,k2 o e,r⟩⟩
 lt:=fun i h st=>by obtain ⟨o,e,_,d⟩:=st.1;exact ⟨o,e,fun v z=>by rw [d] at z;cases z⟩
 draw:=by
  intro A E s Q i x st hx hQ
  obtain ⟨hit,ht⟩:=st
  obtain ⟨o,ho,hc,hd⟩:=id hit
  obtain ⟨ot,hot,ct,nt,dt⟩:=id ht
  unfold Builtin.SmallTypes.nextOf
  refine wpAny_bind (wpAny_callSpecial?_slot (name:=Str.ofString "__next__") hit.typeIs PySem.F.slot_tuple_iterator_next (wpAny_call_entry PySem.F.slot_tuple_iterator_next hit.typeIs PySem.F.entry_tuple_iterator_next ?_ (PySem.F.args_tuple_iterator_next_1 _)))
  refine (show wpAny _ _ (field (.ref it) 0 >>= _) _ _ s from wpAny_bind (wpAny_field ho hd (x:=.ref t) rfl ?_))
  refine (show wpAny _ _ (if (Value.ref t == Value.none)=true then _ else _) _ _ s from ?_);rw [if_neg (show ¬ ((Value.ref t == Value.none)=true) by simp)]
  refine (show wpAny _ _ (field (.ref it) 1 >>= _) _ _ s from wpAny_bind (wpAny_field ho hd (x:=.int i 0) rfl ?_))
  refine (show wpAny _ _ (seqItems? (.ref t) >>= _) _ _ s from wpAny_bind (wpAny_seqItems hot dt ?_));simp only [Int.toNat_natCast,hx]
  refine wpAny_bind (wpAny_setField ho hd (by simp) (wpAny_pure ⟨x,rfl,wpAny_pure (hQ _ ⟨?_,?_⟩ (Heap.SameBut.update ..))⟩))
  ·refine ⟨_,Heap.get?_update_self _ ho (Obj.isFreed_of_fields (Obj.data_mapFields hd _)),(Obj.cls_mapFields ..).trans hc,?_⟩;rw [Obj.data_mapFields hd];simp [rawInt]
  ·exact ⟨ot,(Heap.get?_update_other _ _ (Ne.symm hne)).trans hot,ct,nt,dt⟩
 over:=by
  intro A E s Q i hh st hx hE
  obtain ⟨hit,ht⟩:=st
  obtain ⟨o,ho,hc,hd⟩:=id hit
  obtain ⟨ot,hot,ct,nt,dt⟩:=id ht
  unfold Builtin.SmallTypes.nextOf
  refine wpAny_bind (wpAny_callSpecial?_slot (name:=Str.ofString "__next__") hit.typeIs PySem.F.slot_tuple_iterator_next (wpAny_call_entry PySem.F.slot_tuple_iterator_next hit.typeIs PySem.F.entry_tuple_iterator_next ?_ (PySem.F.args_tuple_iterator_next_1 _)))
  refine (show wpAny _ _ (field (.ref it) 0 >>= _) _ _ s from wpAny_bind (wpAny_field ho hd (x:=.ref t) rfl ?_))
  refine (show wpAny _ _ (if (Value.ref t == Value.none)=true then _ else _) _ _ s from ?_);rw [if_neg (show ¬ ((Value.ref t == Value.none)=true) by simp)]
  refine (show wpAny _ _ (field (.ref it) 1 >>= _) _ _ s from wpAny_bind (wpAny_field ho hd (x:=.int i 0) rfl ?_))
  refine (show wpAny _ _ (seqItems? (.ref t) >>= _) _ _ s from wpAny_bind (wpAny_seqItems hot dt ?_));simp only [Int.toNat_natCast,hx]
  refine wpAny_bind (wpAny_rule (wpAny_bind (wpAny_setField ho hd (by simp) (wpAny_bind ?_))));simp only [newExc,newTuple]
  refine wpAny_bind (wpAny_newObj_type ?_ (by size_fits));refine wpAny_bind (m:=firstArgMember _ _) (wpAny_of_eq (a:=Value.none) (by first | rfl | (simp only [firstArgMember];rfl)) ?_)
  refine wpAny_newObj_type ?_ (by size_fits);simp only [raiseNew];refine wpAny_bind (wpAny_handled ?_)
  first | rw [show A.in1.handled=none from hh] | rw [hh]
  exact wpAny_bind (wpAny_pure (wpAny_throw (hE _ _ (((Heap.SameBut.update ..).extBut.push _).push _) ⟨_,Heap.get?_push_size _ rfl,rfl⟩)))
structure Apart (z TI TO i1 i2 t1 t2:Addr):Prop where
 a1:TI ≠ z
 a2:TO ≠ z
 a3:i1 ≠ z
 a4:i2 ≠ z
 a5:TI ≠ TO
 a6:TI ≠ i1
 a7:TI ≠ i2
 a8:TO ≠ i1
 a9:TO ≠ i2
 b1:i1 ≠ i2
 b2:t1 ≠ z
 b3:t1 ≠ TO
 b4:t1 ≠ i1
 b5:t1 ≠ i2
 b6:t2 ≠ z
 b7:t2 ≠ TO
 b8:t2 ≠ i1
 b9:t2 ≠ i2
section
variable {A:Around} {E:Value->Shared->Prop} {s:Shared} {z TI TO i1 i2 t1 t2:Addr} {xs ys:Array Value} {S1 S2:Nat->Heap->Prop} {k:Nat}
theorem cur_to {it t c:Addr} {us:Array Value} {S:Nat->Heap->Prop} {i:Nat} {h h':Heap} (C:Cursor prog w it t us S) (st:S i h) (e:Heap.SameBut c h h') (n1:it ≠ c) (n2:t ≠ c):S i h':=
 C.stay i h h' st (fun o q=>e.extBut _ _ n1 q) (fun o q=>e.extBut _ _ n2 q)
theorem zip_draw {x y a b:Value} {Q:Value->Shared->Prop} (D:Apart z TI TO i1 i2 t1 t2) (C1:Cursor prog w i1 t1 xs S1) (C2:Cursor prog w i2 t2 ys S2)
  (hz:IsZip s.heap z TI TO .none) (hTI:IsPair s.heap TI (.ref i1) (.ref i2)) (hTO:IsPair s.heap TO a b) (h1:S1 k s.heap) (h2:S2 k s.heap) (hx:xs[k]?=some x) (hy:ys[k]?=some y)
  (hQ:∀ h',IsZip h' z TI TO (rawInt s.heap.objs.size)->IsPair h' TO x y->S1 (k+1) h'->S2 (k+1) h'->IsPair h' s.heap.objs.size x y->(∀ c o,c ≠ z->c ≠ TO->c ≠ i1->c ≠ i2->s.heap.get? c=some o->h'.get? c=some o)->Q (.ref s.heap.objs.size) { s with heap:=h' }) :
  wpAny (model prog w) A (Builtin.«zip.__next__» ⟨[.ref z],[]⟩) (fun fin s'=>∃ v,fin=.done (.ret v)/\Q v s') E s:=by
 refine (show wpAny _ _ (field (.ref z) 2 >>= _) _ _ _ from wpAny_bind (wpAny_field hz rfl (x:=.bool false) rfl ?_))
 refine (show wpAny _ _ (field (.ref z) 3 >>= _) _ _ _ from wpAny_bind (wpAny_field hz rfl (x:=.ref TI) rfl (wpAny_bind (wpAny_seqItems hTI rfl ?_))))
 refine (show wpAny _ _ (Builtin.SmallTypes.ownedTupleIsFree (.ref z) >>= _) _ _ _ from wpAny_bind ?_);unfold Builtin.SmallTypes.ownedTupleIsFree
 refine wpAny_bind (wpAny_field hz rfl (x:=.none) rfl (wpAny_pure ?_));simp only [if_true]
 refine wpAny_bind (wpAny_rule (wpAny_bind (wpAny_field hz rfl (x:=.ref TO) rfl (wpAny_bind (wpAny_setField_rec hz (by simp) fun g1 q1 e1=>?_)))))
 replace q1:IsZip g1 z TI TO .ellipsis:=q1
 refine wpAny_bind ?_;simp only [List.zipIdx_cons,List.zipIdx_nil,List.forIn_cons,List.forIn_nil]
 -- the first
 refine wpAny_bind (wpAny_bind (wpAny_onRaise ?_));refine (show wpAny _ _ (Builtin.SmallTypes.nextOf (.ref i1) >>= _) _ _ _ from wpAny_bind (C1.draw _ _ _ _ k x (cur_to C1 h1 e1 D.a3 D.b2) hx fun g2 c1 e2=>wpAny_pure ?_))
 have p2:IsPair g2 TO a b:=e2.extBut _ _ D.a8 (e1.extBut _ _ D.a2 hTO)
 refine wpAny_bind (wpAny_seqItems p2 rfl (wpAny_bind (wpAny_updateSeq_pair p2 fun g3 p3 e3=>wpAny_bind (wpAny_letGo (wpAny_pure ?_)))));replace p3:IsPair g3 TO x b:=p3
 -- the second
 have d2:S2 k g3:=cur_to C2 (cur_to C2 (cur_to C2 h2 e1 D.a4 D.b6) e2 D.b1.symm D.b8) e3 D.a9.symm D.b7
 refine wpAny_bind (wpAny_bind (wpAny_onRaise ?_));refine (show wpAny _ _ (Builtin.SmallTypes.nextOf (.ref i2) >>= _) _ _ _ from wpAny_bind (C2.draw _ _ _ _ k y d2 hy fun g4 c2 e4=>wpAny_pure ?_))
 have p4:IsPair g4 TO x b:=e4.extBut _ _ D.a9 p3
 refine wpAny_bind (wpAny_seqItems p4 rfl (wpAny_bind (wpAny_updateSeq_pair p4 fun g5 p5 e5=>wpAny_bind (wpAny_letGo (wpAny_pure (wpAny_pure ?_))))));replace p5:IsPair g5 TO x y:=p5
 -- what is handed out
 refine wpAny_bind (wpAny_seqItems p5 rfl (wpAny_bind (wpAny_newTuple ?_)))
 have sz:g5.objs.size=s.heap.objs.size:=by rw [e5.1,e4.1,e3.1,e2.1,e1.1]
 have q5:IsZip g5 z TI TO .ellipsis:=e5.extBut _ _ D.a2.symm (e4.extBut _ _ D.a4.symm (e3.extBut _ _ D.a2.symm (e2.extBut _ _ D.a3.symm q1)))
 have kp:∀ c o,c ≠ z->c ≠ TO->c ≠ i1->c ≠ i2->s.heap.get? c=some o->g5.get? c=some o:=fun c o n1 n2 n3 n4 q=>e5.extBut _ _ n2 (e4.extBut _ _ n4 (e3.extBut _ _ n2 (e2.extBut _ _ n3 (e1.extBut _ _ n1 q))))
 have d1:S1 (k+1) g5:=cur_to C1 (cur_to C1 (cur_to C1 c1 e3 D.a8.symm D.b3) e4 D.b1 D.b5) e5 D.a8.symm D.b3
 have d3:S2 (k+1) g5:=cur_to C2 c2 e5 D.a9.symm D.b7
 refine (show wpAny _ _ (Builtin.SmallTypes.ownedTupleHandOut (.ref z) (.ref g5.objs.size) >>= _) _ _ _ from wpAny_bind ?_);unfold Builtin.SmallTypes.ownedTupleHandOut
 have q6:IsZip (g5.push { cls:=.type "tuple",data:=.seq #[x,y] }) z TI TO .ellipsis:=Heap.get?_push_of_some _ q5
 refine wpAny_bind (wpAny_setField_rec q6 (by simp) fun g7 q7 e7=>?_);replace q7:IsZip g7 z TI TO (rawInt g5.objs.size):=q7
 refine wpAny_setField_rec q7 (by simp) fun g8 q8 e8=>?_;replace q8:IsZip g8 z TI TO (rawInt g5.objs.size):=q8
 have up:∀ c o,c ≠ z->g5.get? c=some o->g8.get? c=some o:=fun c o n q=>e8.extBut _ _ n (e7.extBut _ _ n (Heap.get?_push_of_some _ q))
 have zl:z < g5.objs.size:=Heap.lt_size q5
 have p8:IsPair g8 g5.objs.size x y:=e8.extBut _ _ (Nat.ne_of_gt zl) (e7.extBut _ _ (Nat.ne_of_gt zl) (Heap.get?_push_size _ rfl))
 rw [sz] at q8 p8
 refine wpAny_pure ⟨_,rfl,?_⟩
 refine (show Q (.ref g5.objs.size) _ from ?_);rw [sz]
 exact hQ g8 q8 (up _ _ D.a2 p5) (C1.stay _ _ _ d1 (fun o q=>up _ o D.a3 q) (fun o q=>up _ o D.b2 q)) (C2.stay _ _ _ d3 (fun o q=>up _ o D.a4 q) (fun o q=>up _ o D.b6 q)) p8 fun c o n1 n2 n3 n4 q=>up c o n1 (kp c o n1 n2 n3 n4 q)
theorem zip_over {a b:Value} {Q:Fin->Shared->Prop} (hh:A.handled=none) (D:Apart z TI TO i1 i2 t1 t2) (C1:Cursor prog w i1 t1 xs S1) (C2:Cursor prog w i2 t2 ys S2)
  (hz:IsZip s.heap z TI TO .none) (hTI:IsPair s.heap TI (.ref i1) (.ref i2)) (hTO:IsPair s.heap TO a b) (h1:S1 k s.heap) (h2:S2 k s.heap) (hend:xs[k]?=none\/ys[k]?=none)
  (hE:∀ h' e,(∀ c o,c ≠ z->c ≠ TO->c ≠ i1->c ≠ i2->s.heap.get? c=some o->h'.get? c=some o)->(∃ o,h'.get? e=some o/\o.cls=.type "StopIteration")->E (.ref e) { s with heap:=h' }) :
  wpAny (model prog w) A (Builtin.«zip.__next__» ⟨[.ref z],[]⟩) Q E s:=by
 refine (show wpAny _ _ (field (.ref z) 2 >>= _) _ _ _ from wpAny_bind (wpAny_field hz rfl (x:=.bool false) rfl ?_))
 refine (show wpAny _ _ (field (.ref z) 3 >>= _) _ _ _ from wpAny_bind (wpAny_field hz rfl (x:=.ref TI) rfl (wpAny_bind (wpAny_seqItems hTI rfl ?_))))
 refine (show wpAny _ _ (Builtin.SmallTypes.ownedTupleIsFree (.ref z) >>= _) _ _ _ from wpAny_bind ?_);unfold Builtin.SmallTypes.ownedTupleIsFree
 refine wpAny_bind (wpAny_field hz rfl (x:=.none) rfl (wpAny_pure ?_));simp only [if_true]
 refine wpAny_bind (wpAny_rule (wpAny_bind (wpAny_field hz rfl (x:=.ref TO) rfl (wpAny_bind (wpAny_setField_rec hz (by simp) fun g1 q1 e1=>?_)))))
 replace q1:IsZip g1 z TI TO .ellipsis:=q1
 refine wpAny_bind ?_;simp only [List.zipIdx_cons,List.zipIdx_nil,List.forIn_cons,List.forIn_nil]
 refine wpAny_bind (wpAny_bind (wpAny_onRaise ?_));refine (show wpAny _ _ (Builtin.SmallTypes.nextOf (.ref i1) >>= _) _ _ _ from ?_)
 cases hx:xs[k]? with
 | none=>
  refine wpAny_bind (C1.over _ _ _ _ k hh (cur_to C1 h1 e1 D.a3 D.b2) hx fun g2 e e2 he=>?_)
  obtain ⟨oe,h3,h4⟩:=he
  have q2:IsZip g2 z TI TO .ellipsis:=e2 _ _ D.a3.symm q1
  have ne:e ≠ z:=fun u=>by subst u;rw [q2] at h3;cases h3;simp at h4
  exact wpAny_setField_rec q2 (by simp) fun g3 _ e3=>hE g3 e (fun c o n1 _ n3 _ q=>e3.extBut _ _ n1 (e2 _ _ n3 (e1.extBut _ _ n1 q))) ⟨oe,e3.extBut _ _ ne h3,h4⟩
 | some x=>
  have hy:ys[k]?=none:=by rcases hend with u | u;rw [hx] at u;cases u;exact u
  refine wpAny_bind (C1.draw _ _ _ _ k x (cur_to C1 h1 e1 D.a3 D.b2) hx fun g2 c1 e2=>wpAny_pure ?_)
  have p2:IsPair g2 TO a b:=e2.extBut _ _ D.a8 (e1.extBut _ _ D.a2 hTO)
  refine wpAny_bind (wpAny_seqItems p2 rfl (wpAny_bind (wpAny_updateSeq_pair p2 fun g3 p3 e3=>wpAny_bind (wpAny_letGo (wpAny_pure ?_)))))
  have d2:S2 k g3:=cur_to C2 (cur_to C2 (cur_to C2 h2 e1 D.a4 D.b6) e2 D.b1.symm D.b8) e3 D.a9.symm D.b7
  refine wpAny_bind (wpAny_bind (wpAny_onRaise ?_));refine (show wpAny _ _ (Builtin.SmallTypes.nextOf (.ref i2) >>= _) _ _ _ from wpAny_bind (C2.over _ _ _ _ k hh d2 hy fun g4 e e4 he=>?_))
  obtain ⟨oe,h3,h4⟩:=he
  have q4:IsZip g4 z TI TO .ellipsis:=e4 _ _ D.a4.symm (e3.extBut _ _ D.a2.symm (e2.extBut _ _ D.a3.symm q1))
  have ne:e ≠ z:=fun u=>by subst u;rw [q4] at h3;cases h3;simp at h4
  exact wpAny_setField_rec q4 (by simp) fun g5 _ e5=>hE g5 e (fun c o n1 n2 n3 n4 q=>e5.extBut _ _ n1 (e4 _ _ n4 (e3.extBut _ _ n2 (e2.extBut _ _ n3 (e1.extBut _ _ n1 q))))) ⟨oe,e5.extBut _ _ ne h3,h4⟩
end
end
end L3
namespace L3
open PySem PySem.Spec PyProof.Rows L2
section
variable {X:Cx} {pins:List (Addr × Obj)} {σ:L2.St} {H:Hp} {s:Shared} {h':Heap}
theorem turnedL {t':Nat} {L:List Addr} (I:Inv X pins σ H s) (k:∀ b o,b ∉ L->s.heap.get? b=some o->h'.get? b=some o) (hf:∀ b ∈ L,FpOk X pins H b):Inv X pins σ H { s with heap:=h',toks:=t' }:=by
 have nit:∀ b u,H b=some u->b ∉ L:=fun b u e z=>by rw [(hf b z).1] at e;cases e
 have nl:X.env.locals ∉ L:=fun z=>(hf _ z).2.1 rfl
 refine I.step (g':=s.gens) (d':=s.drawn) (ch:=L) (fun b hb=>?_) (fun b o _ _ hc e _=>k b o hc e) (fun b o _ _ hc e _=>⟨o.slots,k b o hc e⟩) (fun _ _ _ _ n=>n)
  (fun b o hc e=>⟨o,k b o hc e⟩) (fun _ _ e=>e) (fun _ _ _ e=>e) (fun b ps e=>⟨#[],by rw [e];simp⟩) (fun m hm=>?_) (fun b u e=>?_) I.bare
 ·obtain ⟨f0,f1,f2,f3,f4,f5⟩:=hf b hb
  exact ⟨f3,f1,f4,f5⟩
 ·obtain ⟨o,es,ep,ho,r⟩:=hm
  exact ⟨o,es,ep,k _ o nl ho,r⟩
 ·refine (I.hok b u e).stay (fun c v hc q=>k c v ?_ q) (fun _ q=>q) fun _ _ q=>q
  rcases hc with z | z
  ·rw [z];exact nit b u e
  ·exact nit c _ z
end
section
variable {prog:Program} {w:World} {A:Around} {E:Value->Shared->Prop} {s:Shared} {z TI TO i1 i2 t1 t2:Addr} {xs ys:Array Value} {k:Nat}
abbrev TS1 (i1 t1:Addr) (xs:Array Value):Nat->Heap->Prop:=fun i h=>h.IsTupleIter i1 t1 i/\h.IsTuple t1 xs
theorem zipT_next {x y a b:Value} {Q:Option Value->Shared->Prop} (D:Apart z TI TO i1 i2 t1 t2) (hz:IsZip s.heap z TI TO .none) (hTI:IsPair s.heap TI (.ref i1) (.ref i2)) (hTO:IsPair s.heap TO a b)
  (h1:TS1 i1 t1 xs k s.heap) (h2:TS1 i2 t2 ys k s.heap) (hx:xs[k]?=some x) (hy:ys[k]?=some y)
  (hQ:∀ h',IsZip h' z TI TO (rawInt s.heap.objs.size)->IsPair h' TO x y->TS1 i1 t1 xs (k+1) h'->TS1 i2 t2 ys (k+1) h'->IsPair h' s.heap.objs.size x y->(∀ c o,c ≠ z->c ≠ TO->c ≠ i1->c ≠ i2->s.heap.get? c=some o->h'.get? c=some o)->Q (some (.ref s.heap.objs.size)) { s with heap:=h' }) :
  wpAny (model prog w) A (pyNext (.ref z)) Q E s:=by
 have ty:s.TypeIs (.ref z) "zip" := ⟨_,hz,rfl⟩
 unfold pyNext
 exact wpAny_bind (wpAny_attempt (wpAny_callSpecial?_slot (name:=Str.ofString "__next__") ty PySem.F.slot_zip_next (wpAny_call_entry PySem.F.slot_zip_next ty PySem.F.entry_zip_next
  (zip_draw D (cursor_tuple i1 t1 xs D.b4) (cursor_tuple i2 t2 ys D.b9) hz hTI hTO h1 h2 hx hy fun h' q1 q2 q3 q4 q5 q6=>wpAny_pure (hQ h' q1 q2 q3 q4 q5 q6)) (PySem.F.args_zip_next_1 _))))
theorem zipT_end {a b:Value} {Q:Option Value->Shared->Prop} (hh:A.handled=none) (D:Apart z TI TO i1 i2 t1 t2) (hz:IsZip s.heap z TI TO .none) (hTI:IsPair s.heap TI (.ref i1) (.ref i2)) (hTO:IsPair s.heap TO a b)
  (h1:TS1 i1 t1 xs k s.heap) (h2:TS1 i2 t2 ys k s.heap) (hend:xs[k]?=none\/ys[k]?=none)
  (hQ:∀ h',(∀ c o,c ≠ z->c ≠ TO->c ≠ i1->c ≠ i2->s.heap.get? c=some o->h'.get? c=some o)->Q none { s with heap:=h' }):wpAny (model prog w) A (pyNext (.ref z)) Q E s:=by
 have ty:s.TypeIs (.ref z) "zip" := ⟨_,hz,rfl⟩
 unfold pyNext
 refine wpAny_bind (wpAny_attempt (wpAny_callSpecial?_slot (name:=Str.ofString "__next__") ty PySem.F.slot_zip_next (wpAny_call_entry PySem.F.slot_zip_next ty PySem.F.entry_zip_next
  (zip_over hh D (cursor_tuple i1 t1 xs D.b4) (cursor_tuple i2 t2 ys D.b9) hz hTI hTO h1 h2 hend fun h' e kp he=>?_) (PySem.F.args_zip_next_1 _))))
 obtain ⟨o,ho,hc⟩:=he
 exact wpAny_bind (wpAny_isInstance (T := "StopIteration") (b:=true) ⟨o,ho,hc⟩ isSubtype_stop (wpAny_pure (hQ _ kp)))
abbrev zT1 (h:Heap) (a:Addr):Heap:=h.push { cls:=.type "tuple_iterator",data:=.fields #[.ref a,.int 0 0] }
abbrev zT3 (h:Heap) (a b:Addr):Heap:=(zT1 (zT1 h a) b).push { cls:=.type "tuple",data:=.seq #[.ref h.objs.size,.ref (zT1 h a).objs.size] }
abbrev zT4 (h:Heap) (a b:Addr):Heap:=(zT3 h a b).push { cls:=.type "tuple",data:=.seq #[.none,.none] }
abbrev zT5 (h:Heap) (a b:Addr):Heap:=(zT4 h a b).push { cls:=.type "zip",data:=.fields #[.none,.bool false,.bool false,.ref (zT1 (zT1 h a) b).objs.size,.ref (zT3 h a b).objs.size] }
theorem tup_push {h:Heap} {a:Addr} {us:Array Value} (o:Obj) (t:h.IsTuple a us):(h.push o).IsTuple a us:=by
 obtain ⟨p,e,r⟩:=t
 exact ⟨p,Heap.get?_push_of_some _ e,r⟩
theorem meets_zipT (a b:Addr) (xs ys:Array Value) :
  Meets (Builtin.«zip.__new__» ⟨[.type "zip",.ref a,.ref b],[]⟩) (fun _ R s=>(s.heap.IsTuple a xs/\s.heap.IsTuple b ys)/\R (.ok (.ret (.ref (zT4 s.heap a b).objs.size))) { s with heap:=zT5 s.heap a b }):=
 .of_wp fun prog w A R s h=>by
  obtain ⟨hp,g,d,tk,os⟩:=s
  obtain ⟨⟨e1,e2⟩,h⟩:=h
  have sub:=sub_zip
  have f1:Heap.IsTuple (Shared.heap ⟨hp,g,d,tk,os⟩) a xs:=e1
  have f2:Heap.IsTuple (Shared.heap ⟨zT1 hp a,g,d,tk,os⟩) b ys:=tup_push _ e2
  wp_walk using wpAny_pyIter_tuple f1,wpAny_pyIter_tuple f2
  exact ⟨_,rfl,h⟩
theorem call_zipT {a b:Addr} {Q:Value->Shared->Prop} (e1:s.heap.IsTuple a xs) (e2:s.heap.IsTuple b ys)
  (h:∀ h',IsZip h' (s.heap.objs.size+4) (s.heap.objs.size+2) (s.heap.objs.size+3) .none->IsPair h' (s.heap.objs.size+2) (.ref s.heap.objs.size) (.ref (s.heap.objs.size+1))->IsPair h' (s.heap.objs.size+3) .none .none →
   h'.IsTupleIter s.heap.objs.size a 0->h'.IsTupleIter (s.heap.objs.size+1) b 0->(∀ c o,s.heap.get? c=some o->h'.get? c=some o)->Q (.ref (s.heap.objs.size+4)) { s with heap:=h' }) :
  wpAny (model prog w) A (call (.type "zip") [.ref a,.ref b]) Q E s:=by
 refine callType_new PySem.F.called_zip (by decide) (PySem.F.typeCall_zip_2 _ _) (PySem.F.newCall_zip_2 _ _) (fun obj=>PySem.F.args_object_init_3 obj _ _) PySem.F.entry_zip_new (meets_zipT a b xs ys) ⟨⟨e1,e2⟩,?_⟩
 have n1:(zT1 s.heap a).objs.size=s.heap.objs.size+1:=Heap.size_push ..
 have n2:(zT1 (zT1 s.heap a) b).objs.size=s.heap.objs.size+2:=by rw [Heap.size_push,n1]
 have n3:(zT3 s.heap a b).objs.size=s.heap.objs.size+3:=by rw [Heap.size_push,n2]
 have n4:(zT4 s.heap a b).objs.size=s.heap.objs.size+4:=by rw [Heap.size_push,n3]
 have m5:(zT5 s.heap a b).get? (zT4 s.heap a b).objs.size=some _:=Heap.get?_push_size _ rfl
 have m4:(zT5 s.heap a b).get? (zT3 s.heap a b).objs.size=some _:=Heap.get?_push_of_some _ (Heap.get?_push_size _ rfl)
 have m3:(zT5 s.heap a b).get? (zT1 (zT1 s.heap a) b).objs.size=some _:=Heap.get?_push_of_some _ (Heap.get?_push_of_some _ (Heap.get?_push_size _ rfl))
 have m2:(zT5 s.heap a b).get? (zT1 s.heap a).objs.size=some _:=Heap.get?_push_of_some _ (Heap.get?_push_of_some _ (Heap.get?_push_of_some _ (Heap.get?_push_size _ rfl)))
 have m1:(zT5 s.heap a b).get? s.heap.objs.size=some _:=Heap.get?_push_of_some _ (Heap.get?_push_of_some _ (Heap.get?_push_of_some _ (Heap.get?_push_of_some _ (Heap.get?_push_size _ rfl))))
 refine (show _/\_ from ?_)
 rw [n2,n3,n4] at m5
 rw [n1,n2] at m3
 rw [n3] at m4
 rw [n1] at m2
 rw [n4]
 exact ⟨⟨_,m5,rfl⟩,h _ m5 m3 m4 ⟨_,m1,rfl,rfl⟩ ⟨_,m2,rfl,rfl⟩ fun c o x=>Heap.get?_push_of_some _ (Heap.get?_push_of_some _ (Heap.get?_push_of_some _ (Heap.get?_push_of_some _ (Heap.get?_push_of_some _ x))))⟩
end
def Itz (K:PySem.W.Frag) (t1 t2:Addr):It:=⟨fun i H=>∃ xs ys a b,SqT K H t1 xs/\SqT K H t2 ys/\xs[i]?=some a/\ys[i]?=some b,
 fun i H x H'=>∃ T a b,x=.ref T/\H T=none/\H'=upd H T (.tup [a,b])/\∀ xs ys,SqT K H t1 xs->SqT K H t2 ys->xs[i]?=some a/\ys[i]?=some b,
 fun i H=>∃ xs ys,SqT K H t1 xs/\SqT K H t2 ys/\(xs.length<=i\/ys.length<=i)⟩
theorem turn_zip {P:Program} {w:World} {K:PySem.W.Frag} {es:List Expr} {x1:Nat} {tpos:Pos} {z TI TO i1 i2 t1 t2:Addr} (D:Apart z TI TO i1 i2 t1 t2) :
  Turn P w K (.Tuple es x1 tpos) (Itz K t1 t2) [z,TI,TO,i1,i2] z (fun i h=>IsZip h z TI TO .none/\IsPair h TI (.ref i1) (.ref i2)/\(∃ a b,IsPair h TO a b)/\h.IsTupleIter i1 t1 i/\h.IsTupleIter i2 t2 i) where
 mem:=by simp
 obj:=fun i h st b hb=>by
  obtain ⟨q1,q2,⟨a,c,q3⟩,⟨o1,e1,_,d1⟩,⟨o2,e2,_,d2⟩⟩:=st
  simp only [List.mem_cons,List.not_mem_nil,or_false] at hb
  rcases hb with rfl | rfl | rfl | rfl | rfl
  ·exact ⟨_,q1,fun v u=>nomatch u⟩
  ·exact ⟨_,q2,fun v u=>nomatch u⟩
  ·exact ⟨_,q3,fun v u=>nomatch u⟩
  ·exact ⟨_,e1,fun v u=>by rw [d1] at u;cases u⟩
  ·exact ⟨_,e2,fun v u=>by rw [d2] at u;cases u⟩
 keep:=fun i h h' st kp=>by
  obtain ⟨q1,q2,⟨a,c,q3⟩,q4,q5⟩:=st
  exact ⟨kp z (by simp) _ q1,kp TI (by simp) _ q2,⟨a,c,kp TO (by simp) _ q3⟩,q4.at fun o e=>kp i1 (by simp) o e,q5.at fun o e=>kp i2 (by simp) o e⟩
 item:=by
  intro X hP hw hK hc i pins s σ H E I hf st hg
  subst hP hw hK
  obtain ⟨q1,q2,⟨a0,c0,q3⟩,q4,q5⟩:=st
  obtain ⟨xs,ys,a,b,hx,hy,ex,ey⟩:=hg
  obtain ⟨us,ru,pu,zu⟩:=I.tuple hx
  obtain ⟨vs,rv,pv',zv⟩:=I.tuple hy
  obtain ⟨u,eu,ra⟩:=ru.get ex
  obtain ⟨v,ev,rb⟩:=rv.get ey
  refine zipT_next D q1 q2 q3 ⟨q4,pu⟩ ⟨q5,pv'⟩ (x:=u) (y:=v) (by simpa using eu) (by simpa using ev) fun h' g1 g2 g3 g4 g5 kp=>⟨_,rfl,?_⟩
  refine wpAny_letOwnedTupleGo_zip (s:={ s with heap:=h' }) g1 fun h2 hz2 sb=>?_
  have lt:∀ {c o},s.heap.get? c=some o->s.heap.objs.size ≠ c:=fun e=>Nat.ne_of_gt (Heap.lt_size e)
  have kp2:∀ c o,c ∉ [z,TI,TO,i1,i2]->s.heap.get? c=some o->h2.get? c=some o:=fun c o n e=>by
   simp only [List.mem_cons,List.not_mem_nil,or_false,not_or] at n
   exact sb.extBut _ _ n.1 (kp c o n.1 n.2.2.1 n.2.2.2.1 n.2.2.2.2 e)
  have I1:Inv X pins σ H { s with heap:=h2 }:=turnedL (t':=s.toks) I kp2 hf
  have T2:IsPair h2 s.heap.objs.size u v:=sb.extBut _ _ (lt q1) g5
  have sN:s.heap.get? s.heap.objs.size=none:=Heap.get?_none_of_le (Nat.le_refl _)
  have hN:H s.heap.objs.size=none:=I.hok.fresh (Nat.le_refl _)
  have I2:Inv X pins σ (upd H s.heap.objs.size (.tup [a,b])) { s with heap:=h2 }:=inv_track I1 (Heap.get?_none_of_le I.sz) (Nat.ne_of_gt I.lt)
   (fun y c ec=>by obtain ⟨_,o,ho,_⟩:=I.cell y c ec;exact Ne.symm (lt ho)) (fun p hp=>Ne.symm (lt (I.pin p hp).1)) hN
   ⟨few (by show 2<=_;omega),[u,v],.cons ra (.cons rb .nil),⟨_,T2,rfl,0,rfl⟩⟩
  refine ⟨.ref s.heap.objs.size,_,I2,rfl,⟨_,a,b,rfl,hN,rfl,fun xs' ys' hx' hy'=>?_⟩,⟨hz2,?_,?_,?_,?_⟩,fun c hc=>?_⟩
  ·rw [I.tuple_inj hx' hx,I.tuple_inj hy' hy];exact ⟨ex,ey⟩
  ·exact sb.extBut _ _ D.a1 (kp _ _ D.a1 D.a5 D.a6 D.a7 q2)
  ·exact ⟨_,_,sb.extBut _ _ D.a2 g2⟩
  ·exact g3.1.extBut sb.extBut D.a3
  ·exact g4.1.extBut sb.extBut D.a4
  ·have ne:c ≠ s.heap.objs.size:=by
    simp only [List.mem_cons,List.not_mem_nil,or_false] at hc
    obtain ⟨o1,e1,_⟩:=q4
    obtain ⟨o2,e2,_⟩:=q5
    rcases hc with rfl | rfl | rfl | rfl | rfl
    ·exact Ne.symm (lt q1)
    ·exact Ne.symm (lt q2)
    ·exact Ne.symm (lt q3)
    ·exact Ne.symm (lt e1)
    ·exact Ne.symm (lt e2)
   rw [upd_ne ne];exact (hf c hc).1
 done:=by
  intro X hP hw hK hc i pins s σ H E I hf st hg
  subst hP hw hK
  obtain ⟨q1,q2,⟨a0,c0,q3⟩,q4,q5⟩:=st
  obtain ⟨xs,ys,hx,hy,he⟩:=hg
  obtain ⟨us,ru,pu,zu⟩:=I.tuple hx
  obtain ⟨vs,rv,pv',zv⟩:=I.tuple hy
  have l1:=ru.length
  have l2:=rv.length
  refine zipT_end (I.ok.hd hc) D q1 q2 q3 ⟨q4,pu⟩ ⟨q5,pv'⟩ ?_ fun h' kp=>⟨rfl,turnedL (t':=s.toks) I (fun c o n e=>?_) hf⟩
  ·rcases he with he | he
   ·exact .inl (by simp;omega)
   ·exact .inr (by simp;omega)
  ·simp only [List.mem_cons,List.not_mem_nil,or_false,not_or] at n
   exact kp c o n.1 n.2.2.1 n.2.2.2.1 n.2.2.2.2 e
 self:=fun _ _ _ _ _ st h=>wpAny_pyIter_zip st.1 h
theorem apart_mk {n t1 t2:Nat} (h1:t1 < n) (h2:t2 < n):Apart (n+4) (n+2) (n+3) n (n+1) t1 t2:=
 { a1:=(by omega:(n+2:Nat) ≠ n+4),a2:=(by omega:(n+3:Nat) ≠ n+4),a3:=(by omega:(n:Nat) ≠ n+4),a4:=(by omega:(n+1:Nat) ≠ n+4),a5:=(by omega:(n+2:Nat) ≠ n+3),a6:=(by omega:(n+2:Nat) ≠ n),a7:=(by omega:(n+2:Nat) ≠ n+1),a8:=(by omega:(n+3:Nat) ≠ n),a9:=(by omega:(n+3:Nat) ≠ n+1),b1:=(by omega:(n:Nat) ≠ n+1),b2:=(by omega:(t1:Nat) ≠ n+4),b3:=(by omega:(t1:Nat) ≠ n+3),b4:=(by omega:(t1:Nat) ≠ n),b5:=(by omega:(t1:Nat) ≠ n+1),b6:=(by omega:(t2:Nat) ≠ n+4),b7:=(by omega:(t2:Nat) ≠ n+3),b8:=(by omega:(t2:Nat) ≠ n),b9:=(by omega:(t2:Nat) ≠ n+1) }
section
variable {X:Cx} {es:List Expr} {x1:Nat} {tpos:Pos}
def iZip (K:PySem.W.Frag) (ta:TA):TI:=fun σ H R=>ta σ H fun vs H1=>∃ t1 t2:Addr,vs=[.ref t1,.ref t2]/\(∃ xs,SqT K H1 t1 xs)/\(∃ ys,SqT K H1 t2 ys)/\R (Itz K t1 t2) H1
theorem pi_zip {a b:Expr} {ta:TA} {p pos:Pos} (hg:Gl X "zip") (hm:X.mg "zip" = none) (ha:PA X [a,b] ta) (hs:starEach [a,b] X.env=[(false,eval a X.env),(false,eval b X.env)]:=by rfl) (hs2:starEach [b] X.env=[(false,eval b X.env)]:=by rfl) :
  PI X (.Tuple es x1 tpos) (.Call (.Name "zip" p) [a,b] [] pos) (iZip X.K ta):=by
 intro pins s σ H R I h
 refine Call_ (ld_blt I hg hm PyProof.Rows.boot_zip (PyProof.Rows.callWith_type1 (thn (ha pos pins s σ H _ I h) fun us s1 ⟨vs,H1,I1,r1,q1⟩=>?_) (by rw [hs,hs2]) (by rw [hs2];rfl)))
 obtain ⟨t1,t2,e,⟨xs,hx⟩,⟨ys,hy⟩,q⟩:=q1
 subst e
 obtain ⟨u1,u2,rfl,r1',r2'⟩:=r1.two
 cases r1';cases r2'
 obtain ⟨us,ru,pu,zu⟩:=I1.tuple hx
 obtain ⟨vs,rv,pv',zv⟩:=I1.tuple hy
 refine call_zipT pu pv' fun h' g1 g2 g3 g4 g5 kp=>?_
 refine wpAny_pyIter_zip (s:={ s1 with heap:=h' }) g1 ?_
 have lt1:t1 < s1.heap.objs.size:=by obtain ⟨_,e,_⟩:=pu;exact Heap.lt_size e
 have lt2:t2 < s1.heap.objs.size:=by obtain ⟨_,e,_⟩:=pv';exact Heap.lt_size e
 have D:Apart (s1.heap.objs.size+4) (s1.heap.objs.size+2) (s1.heap.objs.size+3) s1.heap.objs.size (s1.heap.objs.size+1) t1 t2:=apart_mk lt1 lt2
 refine ⟨_,_,_,Itz X.K t1 t2,H1,rfl,I1.kept (t':=s1.toks) kp,turn_zip D,⟨g1,g2,⟨_,_,g3⟩,g4,g5⟩,fun b hb=>?_,q⟩
 have hb':s1.heap.objs.size<=b:=by
  simp only [List.mem_cons,List.not_mem_nil,or_false] at hb
  rcases hb with rfl | rfl | rfl | rfl | rfl
  ·exact Nat.le_add_right _ _
  ·exact Nat.le_add_right _ _
  ·exact Nat.le_add_right _ _
  ·exact Nat.le_refl _
  ·exact Nat.le_add_right _ _
 exact I1.fpOk hb' (I1.hok.fresh hb')
theorem call_sum (hc:X.calm=true):CallR X (.builtin "sum") (fun xs H Q=>∃ (p:Addr) (ns:List Int),xs=[.ref p]/\SqL X.K H p (ns.map V.int)/\Q (.int ns.sum) H):=by
 intro pins s σ H xs us Q I r h
 obtain ⟨p,ns,rfl,hq,q⟩:=h
 obtain ⟨u,rfl,ru⟩:=r.one
 cases ru
 obtain ⟨its,rv,hp,hz⟩:=I.list hq
 have hlt:p < s.heap.objs.size:=by obtain ⟨_,e,_⟩:=hp.isList;exact Heap.lt_size e
 have el:its.toArray.size=ns.length:=by rw [List.size_toArray,<-rv.length,List.length_map]
 refine call_sum_walkG (wpAny_pyIter_list hp.isList ?_)
 refine ⟨s.heap.objs.size,[s.heap.objs.size,p],[s.heap.objs.size],its.toArray.size,_,_,fun i=>ns.getD i 0,rfl,Walks.list (A:=X.A.in1) (I.ok.hd hc) _ _ (Nat.ne_of_lt hlt) its.toArray,⟨⟨_,Heap.get?_push_size _ rfl,rfl,rfl⟩,hp.isList.push _⟩,?_,?_,?_⟩
 ·intro b hb
  simp only [List.mem_cons,List.not_mem_nil,or_false] at hb
  rw [Heap.size_push]
  rcases hb with rfl | rfl
  ·exact Nat.lt_succ_self _
  ·exact Nat.lt_succ_of_lt hlt
 ·intro i v hv
  have hv':its[i]?=some v:=by simpa using hv
  have hi:i < ns.length:=by
   have:=(List.getElem?_eq_some_iff.mp hv').1
   rw [<-el,List.size_toArray];exact this
  obtain ⟨u,hu,ru⟩:=rv.get (i:=i) (x:=V.int ns[i]) (by rw [List.getElem?_map,List.getElem?_eq_getElem hi];rfl)
  rw [hv'] at hu;cases hu
  obtain ⟨t,rfl⟩:=ru
  exact ⟨t,by show Value.int ns[i] t=Value.int (ns.getD i 0) t;rw [List.getD_eq_getElem?_getD,List.getElem?_eq_getElem hi];rfl⟩
 ·intro h' tk t' hk
  rw [el,preSum_getD,List.take_length]
  exact ⟨.int _,H,I.kept fun b o e=>hk b o (fun z=>absurd (Heap.lt_size e) (by rw [List.mem_singleton.mp z];exact Nat.lt_irrefl _)) (Heap.get?_push_of_some _ e),⟨_,rfl⟩,q⟩
def rIxOf:V->List V->Hp->VK->Prop:=fun x vs H Q=>∃ (l:Addr) (ws:List Str) (z:Str) (j:Nat),x=.ref l/\vs=[.str z]/\H l=some (.lst (ws.map V.str))/\ws[j]?=some z/\(∀ m,m < j->ws[m]? ≠ some z)/\ws.length<=1000/\Q (.int (j:Nat)) H
theorem mt_indexL:MtM X "list.index" rIxOf:=by
 intro pins s σ H x vs v us Q I rx rv h
 obtain ⟨l,ws,z,j,rfl,rfl,hH,hj,hno,hw,q⟩:=h
 cases rx
 obtain ⟨u,rfl,ru⟩:=rv.one
 obtain ⟨t,rfl⟩:=ru
 obtain ⟨zz,its,n,r,hl,e⟩:=I.lstM hH
 have hjl:j < ws.length:=(List.getElem?_eq_some_iff.mp hj).1
 have hits:its.length=ws.length:=by rw [<-hl,List.length_map]
 have at':∀ m (hm:m < its.length),∃ (y:Str) (ty:Tok),its[m]=.str y ty/\ws[m]?=some y:=fun m hm=>by
  have hm':m < ws.length:=by omega
  obtain ⟨u,eu,ru⟩:=r.get (i:=m) (x:=V.str ws[m]) (by rw [List.getElem?_map,List.getElem?_eq_getElem hm'];rfl)
  rw [List.getElem?_eq_getElem hm] at eu
  cases eu
  obtain ⟨ty,ety⟩:=ru
  exact ⟨ws[m],ty,ety,List.getElem?_eq_getElem hm'⟩
 have flat:(ws.map V.str).all flatV=true:=by rw [List.all_map,List.all_eq_true];exact fun _ _=>rfl
 refine call_meets PySem.F.slot_list_index ⟨_,e,rfl⟩ PySem.F.entry_list_index (PySem.F.args_list_index_2 _ _)
  (SeqAt.list_indexAt l its.toArray n none #[] (.str z t) (eqU (.str z)) j (by rw [List.size_toArray];omega) (by omega) ?_ ?_) ⟨e,fun y hy=>mem_eqAt (x:=.str z) (v:=.str z t) ⟨t,rfl⟩ rfl r flat y (by simpa using hy),⟨.int _,H,I.tok _,⟨_,rfl⟩,q⟩⟩
 ·obtain ⟨y,ty,e1,e2⟩:=at' j (by omega)
  rw [List.getElem_toArray,e1]
  rw [hj] at e2
  cases e2
  show (z == z)=true
  simp
 ·intro m hm hmj
  rw [List.size_toArray] at hm
  obtain ⟨y,ty,e1,e2⟩:=at' m hm
  rw [List.getElem_toArray,e1]
  show (y == z)=false
  have:y ≠ z:=fun q=>hno m hmj (by rw [e2,q])
  simp [this]
theorem ix_dictM {K:PySem.W.Frag} (hK:X.K=K) {a:Addr} {es:Array DictEntry} {n:Nat} (hl:K.lookup a=some ⟨.type "dict",none,.dict es n,#[]⟩) (hk:PySem.W.KeysLit X.w.params es.toList) :
  IxR X (fun x y H Q=>∃ (z:Str) (v:V) (u:Value),x=.ref a/\y=.str z/\PySem.W.nsIn K a z=some (some u)/\RelV v u/\Q v H):=by
 subst hK
 intro value slice pins s σ H x y v u Q I rx ry h hs
 obtain ⟨z,v',u',rfl,rfl,e,rv,q⟩:=h
 cases rx
 obtain ⟨t,rfl⟩:=ry
 have hm:=PySem.W.mapOf_K (prog:=X.prog) I.kIn hl hk
 exact tail_any hm.typeIs PySem.F.slot_dict_getitem.lookup (wpAny_getItem_of (strKind_is X.prog X.w z t) hm (PySem.W.find_K hl e) ⟨v',H,I.tok _,rv,q⟩) hs
end
end L3
namespace L3
open PySem PySem.Spec PyProof.Rows L2
section
variable {X:Cx}
theorem passE {P:Program} {w:World} {X:Cx}:Passes (CXv P w) X E0:=fun _ _ _ _ _ _ _ h=>by
 obtain ⟨_,_,_,_,_,_,_,_,_,_,_,_,_,_,hE⟩:=h
 exact False.elim hE
theorem call_str_any:CallR X (.type "str") (fun xs H Q=>(∃ i,xs=[.int i]/\i.natAbs.log2 < 1920/\Q (.str (toString i)) H)\/∃ z,xs=[.str z]/\Q (.str z) H):=by
 intro pins s σ H xs us Q I r h
 rcases h with ⟨i,rfl,hz,q⟩ | ⟨z,rfl,q⟩
 ·obtain ⟨u,rfl,t,rfl⟩:=vals1 r
  exact PySem.P.str_of_int hz ⟨.str _,H,I.tok _,⟨_,rfl⟩,q⟩
 ·obtain ⟨u,rfl,t,rfl⟩:=vals1 r
  exact PySem.P.str_of_str ⟨.str _,H,I,⟨_,rfl⟩,q⟩
end
def eqL:List V->List V->Bool
 | [],[]=>true
 | x :: xs,y :: ys=>eqV x y && eqL xs ys
 | _,_=>false
theorem eqL_eq:∀ xs ys:List V,(decide (xs.length=ys.length) && (List.range xs.length).all fun i=>eqV (xs.getD i .non) (ys.getD i .non))=eqL xs ys
 | [],[]=>rfl
 | [],y :: ys=>by simp [eqL]
 | x :: xs,[]=>by simp [eqL]
 | x :: xs,y :: ys=>by
  have ih:=eqL_eq xs ys
  rw [List.length_cons,List.length_cons,List.range_succ_eq_map,List.all_cons,List.all_map]
  have e:decide (xs.length+1=ys.length+1)=decide (xs.length=ys.length):=decide_eq_decide.mpr (by omega)
  rw [e]
  show (decide (xs.length=ys.length) && (eqV x y && (List.range xs.length).all fun i=>eqV (xs.getD i .non) (ys.getD i .non)))=(eqV x y && eqL xs ys)
  rw [<-ih]
  exact Bool.and_left_comm _ _ _
theorem EqS.flats {K:PySem.W.Frag} {H:Hp} {p r:Addr} {xs ys:List V} (h:(SqL K H p xs/\SqL K H r ys)\/(SqT K H p xs/\SqT K H r ys)) (hx:xs.all flatV=true) (hy:ys.all flatV=true):EqS K H 0 (.ref p) (.ref r) (eqL xs ys):=by
 refine ⟨p,r,xs,ys,fun i=>eqV (xs.getD i .non) (ys.getD i .non),rfl,rfl,h,fun i x y ex ey=>?_,(eqL_eq xs ys).symm⟩
 refine ⟨List.all_eq_true.mp hx x (List.mem_of_getElem? ex),List.all_eq_true.mp hy y (List.mem_of_getElem? ey),?_⟩
 show eqV (xs[i]?.getD .non) (ys[i]?.getD .non)=_
 rw [ex,ey];rfl
end L3
namespace Vm
open PySem PySem.Spec PyProof.Rows L2 L3
section
open PySem.StrLaws Builtin Builtin.Str
def joinC:List (List Nat)->List Nat
 | []=>[]
 | [l]=>l
 | l :: m :: r=>l++44 :: 32 :: joinC (m :: r)
def cutsC:Nat->List (List Nat)->List Nat
 | _,[]=>[]
 | _,[_]=>[]
 | a,l :: m :: r=>(a+l.length) :: cutsC (a+l.length+2) (m :: r)
def cm:Str:=⟨#[44,32]⟩
def atC (x:Str) (i:Nat):Bool:=decide (i+2<=x.length) && subAt x cm i
theorem occC (x:Str) (lim:Nat) (hx:∀ i,atC x i=true->atC x (i+1)=false):∀ (n a:Nat) (arr:Array Nat) (free:Nat),(free<=a\/(free<=a+1/\atC x a=false))->arr.size+n<=lim →
  (forIn (List.range' a n) (arr,free) (occBody x cm x.length lim)).run.fst.toList=arr.toList++(List.range' a n).filter (atC x)
 | 0,a,arr,free,_,_=>by simp
 | n+1,a,arr,free,hf,hl=>by
  rw [List.range'_succ,List.forIn_cons]
  unfold occBody
  have e2:cm.length=2:=rfl
  cases ha:atC x a with
  | true=>
   have hf':free<=a:=by
    rcases hf with z | z
    ·exact z
    ·rw [ha] at z;exact absurd z.2 (by decide)
   have h2:=Bool.and_eq_true_iff.mp ha
   have h3:=of_decide_eq_true h2.1
   rw [if_pos ⟨⟨⟨by show arr.size < lim;omega,hf'⟩,by rw [e2];exact h3⟩,h2.2⟩,List.filter_cons_of_pos ha]
   have ih:=occC x lim hx n (a+1) (arr.push a) (a+cm.length) (.inr ⟨by rw [e2];omega,hx a ha⟩) (by rw [Array.size_push];omega)
   unfold occBody at ih
   refine Eq.trans ih ?_
   rw [Array.toList_push,List.append_assoc]
   rfl
  | false=>
   rw [if_neg ?_,List.filter_cons_of_neg (by rw [ha];exact Bool.false_ne_true)]
   ·have ih:=occC x lim hx n (a+1) arr free (.inl (by rcases hf with z | z <;> omega)) (by omega)
    unfold occBody at ih
    exact ih
   ·rintro ⟨⟨_,h1⟩,h2⟩
    rw [e2] at h1
    have:atC x a=true:=Bool.and_eq_true_iff.mpr ⟨decide_eq_true h1,h2⟩
    rw [ha] at this
    exact Bool.false_ne_true this
theorem occ_filter (x:Str) (hx:∀ i,atC x i=true->atC x (i+1)=false):occurrences x cm 0 x.length (x.length+1)=(List.range' 0 (x.length+1)).filter (atC x):=by
 rw [occ_eq]
 have:=occC x (x.length+1) hx (x.length+1) 0 #[] 0 (.inl (Nat.le_refl _)) (by simp)
 rw [show x.length+1 - 0=x.length+1 from rfl,this]
 simp
theorem atC_iff (x:Str) (i:Nat):atC x i=true ↔ (x.cps.toList.drop i).take 2=[44,32]:=by
 unfold atC
 rw [Bool.and_eq_true_iff,subAt_eq,decide_eq_true_iff]
 have e2:cm.length=2:=rfl
 have e3:cm.cps.toList=[44,32]:=rfl
 rw [e2,e3,beq_iff_eq]
 constructor
 ·exact fun h=>h.2
 ·intro h
  refine ⟨?_,h⟩
  have h1:=congrArg List.length h
  rw [List.length_take,List.length_drop] at h1
  have h2:x.cps.toList.length=x.length:=by simp [Str.length]
  rw [h2] at h1
  have h3:[44,32].length=2:=rfl
  rw [h3] at h1
  omega
theorem atC_get {x:Str} {i:Nat} (h:atC x i=true):x.cps.toList[i]?=some 44/\x.cps.toList[i+1]?=some 32:=by
 have h:=(atC_iff x i).mp h
 have h0:((x.cps.toList.drop i).take 2)[0]?=some 44:=by rw [h];rfl
 have h1:((x.cps.toList.drop i).take 2)[1]?=some 32:=by rw [h];rfl
 rw [List.getElem?_take,if_pos (by decide),List.getElem?_drop] at h0 h1
 exact ⟨h0,h1⟩
theorem atC_next (x:Str):∀ i,atC x i=true->atC x (i+1)=false:=fun i h=>by
 cases h2:atC x (i+1) with
 | false=>rfl
 | true=>
  have a:=(atC_get h).2
  rw [(atC_get h2).1] at a
  cases a
theorem cuts_filter (x:Str):∀ (ls:List (List Nat)) (pre:List Nat),ls ≠ []->(∀ l ∈ ls,44 ∉ l)->x.cps.toList=pre++joinC ls->(List.range' pre.length (x.length+1 - pre.length)).filter (atC x)=cutsC pre.length ls
 | [],_,h,_,_=>absurd rfl h
 | [l],pre,_,hc,hx=>by
  show _=[]
  rw [List.filter_eq_nil_iff]
  ·intro i hi h
   have h1:=(atC_get h).1
   rw [hx] at h1
   have hm:=List.mem_range'.mp hi
   obtain ⟨k,hk,rfl⟩:=hm
   rw [List.getElem?_append_right (by omega)] at h1
   exact hc l List.mem_cons_self (List.mem_of_getElem? h1)
 | l :: m :: r,pre,_,hc,hx=>by
  have hlen:x.length=(pre++joinC (l :: m :: r)).length:=by rw [<-hx];simp [Str.length]
  have ej:joinC (l :: m :: r)=l++44 :: 32 :: joinC (m :: r):=rfl
  rw [ej,List.length_append,List.length_append,List.length_cons,List.length_cons] at hlen
  have er:x.length+1 - pre.length=l.length+(2+(x.length+1 - (pre++l++[44,32]).length)):=by
   simp only [List.length_append,List.length_cons,List.length_nil]
   omega
  have ih:=cuts_filter x (m :: r) (pre++l++[44,32]) (fun e=>nomatch e) (fun k hk=>hc k (List.mem_cons_of_mem _ hk)) (by rw [hx,ej];simp)
  have el:(pre++l++[44,32]).length=pre.length+l.length+2:=by simp;omega
  rw [er,<-List.range'_append_1,List.filter_append,<-List.range'_append_1,List.filter_append,<-el,ih,el]
  have f1:(List.range' pre.length l.length).filter (atC x)=[]:=by
   rw [List.filter_eq_nil_iff]
   intro i hi h
   have h1:=(atC_get h).1
   obtain ⟨k,hk,rfl⟩:=List.mem_range'.mp hi
   rw [hx,ej,List.getElem?_append_right (by omega),List.getElem?_append_left (by omega)] at h1
   exact hc l List.mem_cons_self (List.mem_of_getElem? h1)
  have f2:(List.range' (pre.length+l.length) 2).filter (atC x)=[pre.length+l.length]:=by
   have t1:atC x (pre.length+l.length)=true:=by
    rw [atC_iff,hx,ej,<-List.append_assoc,List.drop_append_of_le_length (by simp),List.drop_of_length_le (by simp)]
    rfl
   have t2:=atC_next x _ t1
   show List.filter (atC x) [pre.length+l.length,pre.length+l.length+1]=_
   rw [List.filter_cons_of_pos t1,List.filter_cons_of_neg (by rw [t2];exact Bool.false_ne_true)]
   rfl
  rw [f1,f2]
  rfl
theorem parts_C (x:Str):∀ (ls:List (List Nat)) (pre:List Nat),ls ≠ []->x.cps.toList=pre++joinC ls->partsFrom x 2 pre.length (cutsC pre.length ls)=ls.map mkS
 | [],_,h,_=>absurd rfl h
 | [l],pre,_,hx=>by
  show [strSub x pre.length x.length]=[mkS l]
  congr 1
  apply Str.ext'
  apply Array.toList_inj.mp
  rw [strSub_toList,mkS_list,hx,List.drop_left]
  exact List.take_of_length_le (by
   have hlen:x.length=(pre++joinC [l]).length:=by rw [<-hx];simp [Str.length]
   rw [hlen,List.length_append]
   show l.length<=_
   have:joinC [l]=l:=rfl
   rw [this];omega)
 | l :: m :: r,pre,_,hx=>by
  have ej:joinC (l :: m :: r)=l++44 :: 32 :: joinC (m :: r):=rfl
  have ih:=parts_C x (m :: r) (pre++l++[44,32]) (fun e=>nomatch e) (by rw [hx,ej];simp)
  have el:(pre++l++[44,32]).length=pre.length+l.length+2:=by simp;omega
  rw [el] at ih
  show strSub x pre.length (pre.length+l.length) :: partsFrom x 2 (pre.length+l.length+2) (cutsC (pre.length+l.length+2) (m :: r))=_
  rw [ih,List.map_cons]
  congr 1
  apply Str.ext'
  apply Array.toList_inj.mp
  rw [strSub_toList,mkS_list,hx,List.drop_left,ej,Nat.add_sub_cancel_left,List.take_left]
theorem kind_cm:Builtin.Str.strKind cm=1:=by decide +kernel
theorem kind_pos (x:Str):1<=Builtin.Str.strKind x:=by
 unfold Builtin.Str.strKind
 split
 ·exact Nat.le_refl _
 ·split <;> decide
theorem split_C {x:Str} {ls:List (List Nat)} (hn:ls ≠ []) (hc:∀ l ∈ ls,44 ∉ l) (hx:x.cps.toList=joinC ls):Txt.split x cm=ls.map mkS:=by
 have ho:occurrences x cm 0 x.length (x.length+1)=cutsC 0 ls:=by
  rw [occ_filter x (atC_next x)]
  exact cuts_filter x ls [] hn hc hx
 have hp:=parts_C x ls [] hn hx
 have one:∀ l,ls=[l]->[x]=ls.map mkS:=fun l e=>by
  rw [e,List.map_cons,List.map_nil]
  congr 1
  apply Str.ext'
  apply Array.toList_inj.mp
  rw [mkS_list,hx,e];rfl
 unfold Txt.split
 rw [kind_cm]
 have h2:decide (Builtin.Str.strKind x < 1)=false:=decide_eq_false (by have:=kind_pos x;omega)
 rw [h2,Bool.or_false]
 have e2:cm.length=2:=rfl
 cases ls with
 | nil=>exact absurd rfl hn
 | cons l r=>
  cases r with
  | nil=>
   by_cases h1:decide (x.length < cm.length)=true
   ·rw [if_pos h1];exact one l rfl
   ·rw [if_neg h1,ho,if_pos (show (cutsC 0 [l]).isEmpty=true from rfl)];exact one l rfl
  | cons m r=>
   have hlen:x.length=(joinC (l :: m :: r)).length:=by rw [<-hx];simp [Str.length]
   have ej:joinC (l :: m :: r)=l++44 :: 32 :: joinC (m :: r):=rfl
   rw [ej,List.length_append,List.length_cons,List.length_cons] at hlen
   rw [if_neg (fun h=>by have:=of_decide_eq_true h;rw [e2] at this;omega),ho,if_neg (by intro h;cases h),partsBetween_eq,e2]
   exact hp
theorem sjoin_C:∀ ws:List Str,(Str.join cm ws).cps.toList=joinC (ws.map fun z=>z.cps.toList)
 | []=>rfl
 | [z]=>rfl
 | z :: y :: r=>by
  have ih:=sjoin_C (y :: r)
  show (z++cm++Str.join cm (y :: r)).cps.toList=z.cps.toList++44 :: 32 :: joinC ((y :: r).map fun z=>z.cps.toList)
  rw [<-ih,app_list,app_list,List.append_assoc]
  rfl
theorem join_C (ws:List Str):(Txt.join cm ws).cps.toList=joinC (ws.map fun z=>z.cps.toList):=by
 rw [<-sjoin_C]
 show (glued cm ws).cps.toList=_
 rw [StrLaws.glued_eq_join]
theorem cm_eq:Str.ofString ", " = cm:=by decide +kernel
theorem split_join_C {ws:List Str} (hn:ws ≠ []) (hc:∀ z ∈ ws,44 ∉ z.cps.toList):Txt.split (Txt.join (Str.ofString ", ") ws) (Str.ofString ", ")=ws:=by
 rw [cm_eq,split_C (ls:=ws.map fun z=>z.cps.toList) (fun e=>hn (List.map_eq_nil_iff.mp e)) (fun l hl=>?_) (join_C ws),List.map_map]
 ·have:(mkS ∘ fun z:Str=>z.cps.toList)=_root_.id:=by funext z;exact str_mk z
  rw [this,List.map_id]
 ·obtain ⟨z,hz,rfl⟩:=List.mem_map.mp hl
  exact hc z hz
end
def isKeep:Sk->Bool
 | .keep=>true
 | _=>false
theorem keep_eq (st:Sk):eqL (stepV st) [.str (Str.ofString "keep")]=isKeep st:=by
 cases st with
 | keep=>decide +kernel
 | lose=>decide +kernel
 | twice=>decide +kernel
 | swap=>decide +kernel
 | turn z=>show (eqV _ _ && false)=false;rw [Bool.and_false]
 | add z=>show (eqV _ _ && false)=false;rw [Bool.and_false]
 | skip m=>show (eqV _ _ && false)=false;rw [Bool.and_false]
theorem step_flat (st:Sk):(stepV st).all flatV=true:=by cases st <;> rfl
def kw (n:Nat):List Str:=if n=0 then [] else [numS (n:Int)]
def textV:V->Str
 | .str z=>z
 | .int n=>numS n
 | _=>Str.ofString ""
def partsS (st:Sk):List Str:=(stepV st).map textV
def itemS (st:Sk):Str:=Txt.join (Str.ofString " ") (partsS st)
theorem part_kind {st:Sk} (h:okS st):∀ x ∈ stepV st,(∃ z,x=.str z)\/∃ m:Nat,x=.int (m:Nat)/\m<=1000:=by
 intro x hx
 cases st with
 | skip m=>
  rcases List.mem_cons.mp hx with e | hx
  ·exact .inl ⟨_,e⟩
  ·exact .inr ⟨m,List.mem_singleton.mp hx,h.2⟩
 | turn z=>
  rcases List.mem_cons.mp hx with e | hx
  ·exact .inl ⟨_,e⟩
  ·exact .inl ⟨_,List.mem_singleton.mp hx⟩
 | add z=>
  rcases List.mem_cons.mp hx with e | hx
  ·exact .inl ⟨_,e⟩
  ·exact .inl ⟨_,List.mem_singleton.mp hx⟩
 | keep=>exact .inl ⟨_,List.mem_singleton.mp hx⟩
 | lose=>exact .inl ⟨_,List.mem_singleton.mp hx⟩
 | twice=>exact .inl ⟨_,List.mem_singleton.mp hx⟩
 | swap=>exact .inl ⟨_,List.mem_singleton.mp hx⟩
theorem bl_eq:Str.ofString " " = (⟨#[32]⟩:Str):=by decide +kernel
theorem item_list (st:Sk):(itemS st).cps.toList=joinL 32 ((partsS st).map fun z=>z.cps.toList):=by
 unfold itemS;rw [bl_eq];exact glue_list 32 _
def turnS:Str:=Str.ofString "turn"
def addS:Str:=Str.ofString "add"
def skipS:Str:=Str.ofString "skip"
def kinds:List Str:=[Str.ofString "keep",Str.ofString "lose",Str.ofString "twice",Str.ofString "swap",Str.ofString "turn",Str.ofString "add",Str.ofString "skip"]
theorem item_form (st:Sk) (h:okS st):(∃ k ∈ kinds,itemS st=k)\/∃ k ∈ kinds,∃ z:Str,(itemS st).cps.toList=k.cps.toList++32 :: z.cps.toList/\z.length<=40/\32 ∉ z.cps.toList/\44 ∉ z.cps.toList:=by
 have g:∀ z:Str,Good z->z.length<=40/\32 ∉ z.cps.toList/\44 ∉ z.cps.toList:=fun z gz=>by
  refine ⟨by have:=gz.hi;omega,fun hc=>?_,fun hc=>?_⟩
  ·have:=gz.al 32 hc;unfold Al at this;omega
  ·have:=gz.al 44 hc;unfold Al at this;omega
 cases st with
 | turn z=>exact .inr ⟨_,by simp [kinds,textV,turnS,addS,skipS],z,item_list _,g z h⟩
 | add z=>exact .inr ⟨_,by simp [kinds,textV,turnS,addS,skipS],z,item_list _,g z h⟩
 | skip m=>
  refine .inr ⟨_,by simp [kinds,textV,turnS,addS,skipS],numS (m:Int),item_list (.skip m),numS_len (by omega) (by have:=h.2;omega),fun hc=>?_,fun hc=>?_⟩
  ·have:=numS_digits m 32 hc;omega
  ·have:=numS_digits m 44 hc;omega
 | keep=>exact .inl ⟨Str.ofString "keep",by simp [kinds],by decide +kernel⟩
 | lose=>exact .inl ⟨Str.ofString "lose",by simp [kinds],by decide +kernel⟩
 | twice=>exact .inl ⟨Str.ofString "twice",by simp [kinds],by decide +kernel⟩
 | swap=>exact .inl ⟨Str.ofString "swap",by simp [kinds],by decide +kernel⟩
theorem kinds_facts:∀ k ∈ kinds,k.length<=5/\32 ∉ k.cps.toList/\44 ∉ k.cps.toList/\writesB k=false:=by decide +kernel
theorem item_len {st:Sk} (h:okS st):(itemS st).length<=60:=by
 rcases item_form st h with ⟨k,hk,e⟩ | ⟨k,hk,z,e,hz,_⟩
 ·rw [e];have:=(kinds_facts k hk).1;omega
 ·rw [<-clen,e,List.length_append,List.length_cons,clen,clen]
  have:=(kinds_facts k hk).1
  omega
theorem item_comma {st:Sk} (h:okS st):44 ∉ (itemS st).cps.toList:=by
 rcases item_form st h with ⟨k,hk,e⟩ | ⟨k,hk,z,e,hz,_,hc⟩
 ·rw [e];exact (kinds_facts k hk).2.2.1
 ·rw [e]
  intro hm
  rcases List.mem_append.mp hm with hm | hm
  ·exact (kinds_facts k hk).2.2.1 hm
  ·rcases List.mem_cons.mp hm with hm | hm
   ·cases hm
   ·exact hc hm
def wStep (x:List Str × Nat) (st:Sk):List Str × Nat:=if isKeep st=true then (x.1,x.2+1) else (x.1++kw x.2++[itemS st],0)
def wAll (sts:List Sk):List Str × Nat:=sts.foldl wStep ([],0)
def itemsS (sts:List Sk):List Str:=(wAll sts).1++kw (wAll sts).2
def textS (sts:List Sk):Str:=Txt.join (Str.ofString ", ") (itemsS sts)
theorem wAll_turn {sts:List Sk} {i:Nat} {st:Sk} (hi:sts[i]?=some st):wAll (sts.take (i+1))=wStep (wAll (sts.take i)) st:=by
 have hl:=(List.getElem?_eq_some_iff.mp hi).1
 unfold wAll
 rw [List.take_succ_eq_append_getElem hl,(List.getElem?_eq_some_iff.mp hi).2,List.foldl_append]
 rfl
theorem kw_len {n:Nat} (h:n<=1000):(kw n).length<=1/\∀ z ∈ kw n,z.length<=60:=by
 unfold kw
 by_cases h0:n=0
 ·rw [if_pos h0];exact ⟨Nat.zero_le _,fun _ z=>nomatch z⟩
 ·rw [if_neg h0]
  refine ⟨Nat.le_refl _,fun z hz=>?_⟩
  rw [List.mem_singleton.mp hz]
  have:=numS_len (n:=(n:Int)) (by omega) (by omega)
  omega
theorem kw_min (n:Nat):(kw n).length=min n 1:=by
 unfold kw
 by_cases h0:n=0
 ·rw [if_pos h0,h0];rfl
 ·rw [if_neg h0];show 1=_;omega
theorem sum60 {ws:List Str} (h:∀ z ∈ ws,z.length<=60):(ws.map (·.length)).sum<=60 * ws.length:=by
 induction ws with
 | nil=>exact Nat.zero_le _
 | cons z r ih=>
  have h1:=h z List.mem_cons_self
  have h2:=ih fun y hy=>h y (List.mem_cons_of_mem _ hy)
  rw [List.map_cons,List.sum_cons,List.length_cons]
  omega
def cntI (z:Str):Option Int:=if pnum z 80=some 0 then none else pnum z 80
theorem pnum_in {z:Str} {m n:Int} (h:pnum z m=some n):0<=n/\n<=m:=by
 unfold pnum at h
 split at h
 ·split at h
  ·cases h
   exact ⟨by omega,by assumption⟩
  ·cases h
 ·cases h
theorem cnt_in {z:Str} {n:Int} (h:cntI z=some n):1<=n/\n<=80:=by
 unfold cntI at h
 split at h
 ·cases h
 ·rename_i h0
  have h1:=pnum_in h
  have:n ≠ 0:=fun e=>h0 (by rw [h,e])
  omega
def pairR (k z:Str):Option Sk:=
 if (k=turnS\/k=addS)/\wordB z=true then some (if k=turnS then .turn z else .add z)
 else if k=skipS then (cntI z).map fun n=>.skip n.toNat else none
def itemR (z:Str):Option (List Sk):=
 if z=Str.ofString "lose" then some [.lose] else if z=Str.ofString "twice" then some [.twice] else if z=Str.ofString "swap" then some [.swap] else
 match cntI z with
 | some n=>some (List.replicate n.toNat .keep)
 | none=>match Txt.split z (Str.ofString " ") with
  | [a,b]=>(pairR a b).map fun st=>[st]
  | _=>none
def readAll:List Str->Option (List Sk)
 | []=>some []
 | z :: r=>(itemR z).bind fun a=>(readAll r).map fun b=>a++b
def readS (z:Str):Option (List Sk):=if z=Str.ofString "" then some [] else (readAll (Txt.split z (Str.ofString ", "))).bind fun sts=>if 80 < sts.length then none else some sts
theorem readAll_append:∀ a b:List Str,readAll (a++b)=(readAll a).bind fun x=>(readAll b).map fun y=>x++y
 | [],b=>by
  show readAll b=(some []).bind _
  cases readAll b <;> rfl
 | z :: a,b=>by
  show (itemR z).bind (fun x=>(readAll (a++b)).map fun y=>x++y)=((itemR z).bind fun x=>(readAll a).map fun y=>x++y).bind _
  cases itemR z with
  | none=>rfl
  | some x=>
   show (readAll (a++b)).map _=((readAll a).map _).bind _
   rw [readAll_append a b]
   cases readAll a with
   | none=>rfl
   | some y=>
    show Option.map _ ((readAll b).map _)=(readAll b).map _
    cases readAll b with
    | none=>rfl
    | some u=>show some (x++(y++u))=some (x++y++u);rw [List.append_assoc]
theorem readAll_turn {ws:List Str} {i:Nat} {z:Str} (hi:ws[i]?=some z) {x:List Sk} (h:readAll (ws.take i)=some x):readAll (ws.take (i+1))=(itemR z).map fun y=>x++y:=by
 have hl:=(List.getElem?_eq_some_iff.mp hi).1
 rw [List.take_succ_eq_append_getElem hl,(List.getElem?_eq_some_iff.mp hi).2,readAll_append,h]
 show ((itemR z).bind fun a=>(some []).map fun b=>a++b).map _=_
 cases itemR z with
 | none=>rfl
 | some a=>show some (x++(a++[]))=some (x++a);rw [List.append_nil]
theorem readAll_stop {ws:List Str} {i:Nat} (h:readAll (ws.take i)=none):readAll ws=none:=by
 have e:ws=ws.take i++ws.drop i:=(List.take_append_drop i ws).symm
 rw [e,readAll_append,h];rfl
theorem pair_ok {k z:Str} {st:Sk} (h:pairR k z=some st):okS st/\isKeep st=false:=by
 unfold pairR at h
 split at h
 ·rename_i hc
  have g:=wordB_iff.mp hc.2
  cases h
  split
  ·exact ⟨g,rfl⟩
  ·exact ⟨g,rfl⟩
 ·split at h
  ·cases hz:cntI z with
   | none=>rw [hz] at h;cases h
   | some n=>
    rw [hz] at h
    cases h
    have:=cnt_in hz
    exact ⟨⟨by omega,by omega⟩,rfl⟩
  ·cases h
theorem item_ok {z:Str} {sts:List Sk} (h:itemR z=some sts):sts.length<=80/\∀ st ∈ sts,okS st:=by
 have one:∀ st,okS st->[st]=sts->sts.length<=80/\∀ st ∈ sts,okS st:=fun st o e=>by
  subst e
  exact ⟨by show 1<=80;omega,fun s hs=>by rw [List.mem_singleton.mp hs];exact o⟩
 unfold itemR at h
 split at h
 ·exact one .lose trivial (Option.some.inj h)
 split at h
 ·exact one .twice trivial (Option.some.inj h)
 split at h
 ·exact one .swap trivial (Option.some.inj h)
 split at h
 ·rename_i n hn
  have:=cnt_in hn
  cases h
  refine ⟨by rw [List.length_replicate];omega,fun s hs=>?_⟩
  rw [List.eq_of_mem_replicate hs];trivial
 ·split at h
  ·rename_i a b _
   cases hp:pairR a b with
   | none=>rw [hp] at h;cases h
   | some st=>rw [hp] at h;exact one st (pair_ok hp).1 (Option.some.inj h)
  ·cases h
theorem num80:∀ n,n < 81->pnum (numS ((n:Nat):Int)) 80=some ((n:Nat):Int):=by decide +kernel
theorem cnt_num {n:Nat} (h1:1<=n) (h2:n<=80):cntI (numS (n:Int))=some (n:Int):=by
 unfold cntI
 rw [num80 n (by omega),if_neg (fun e=>by have:=Option.some.inj e;omega)]
theorem cnt_none {z:Str} (h:writesB z=false):cntI z=none:=by
 have:pnum z 80=none:=by unfold pnum;rw [h];rfl
 unfold cntI
 rw [this,if_neg (fun e=>nomatch e)]
theorem digit_ne {n:Nat} {k:Str} (hk:∃ c ∈ k.cps.toList,97<=c):numS (n:Int) ≠ k:=fun e=>by
 obtain ⟨c,hc,hl⟩:=hk
 rw [<-e] at hc
 have:=numS_digits n c hc
 omega
theorem read_num {n:Nat} (h1:1<=n) (h2:n<=80):itemR (numS (n:Int))=some (List.replicate n .keep):=by
 unfold itemR
 rw [if_neg (digit_ne (by decide +kernel)),if_neg (digit_ne (by decide +kernel)),if_neg (digit_ne (by decide +kernel)),cnt_num h1 h2]
 show some (List.replicate ((n:Int)).toNat Sk.keep)=_
 rw [Int.toNat_natCast]
theorem split_two {x k z:Str} (e:x.cps.toList=k.cps.toList++32 :: z.cps.toList) (hk:32 ∉ k.cps.toList) (hz:32 ∉ z.cps.toList):Txt.split x (Str.ofString " ")=[k,z]:=by
 rw [bl_eq,split_eq,e,splitL_app _ hk,splitL_free hz]
 show [(⟨k.cps.toList.toArray⟩:Str),⟨z.cps.toList.toArray⟩]=_
 rw [str_mk,str_mk]
theorem blank_not {x:Str} (h:32 ∈ x.cps.toList):writesB x=false/\∀ k ∈ kinds,x ≠ k:=by
 refine ⟨?_,fun k hk e=>(kinds_facts k hk).2.1 (by rw [<-e];exact h)⟩
 unfold writesB
 split
 ·rfl
 ·rw [if_neg]
  intro ho
  have:=only_digits ho 32 h
  omega
theorem read_item {st:Sk} (h:okS st) (h80:∀ m,st=.skip m->m<=80) (hk:isKeep st=false):itemR (itemS st)=some [st]:=by
 have two:∀ (k:Str) (z:Str),k ∈ kinds->32 ∉ z.cps.toList->(itemS st).cps.toList=k.cps.toList++32 :: z.cps.toList->pairR k z=some st->itemR (itemS st)=some [st]:=fun k z kk hz e hp=>by
  have hb:=blank_not (x:=itemS st) (by rw [e];simp)
  unfold itemR
  rw [if_neg (hb.2 _ (by simp [kinds,textV,turnS,addS,skipS])),if_neg (hb.2 _ (by simp [kinds,textV,turnS,addS,skipS])),if_neg (hb.2 _ (by simp [kinds,textV,turnS,addS,skipS])),cnt_none hb.1,split_two e (kinds_facts k kk).2.1 hz]
  show (pairR k z).map _=_
  rw [hp];rfl
 have g:∀ z:Str,Good z->32 ∉ z.cps.toList:=fun z gz hc=>by have:=gz.al 32 hc;unfold Al at this;omega
 cases st with
 | keep=>cases hk
 | lose=>
  have e:itemS .lose=Str.ofString "lose" := by decide +kernel
  rw [e];unfold itemR;rw [if_pos rfl]
 | twice=>
  have e:itemS .twice=Str.ofString "twice" := by decide +kernel
  rw [e];unfold itemR;rw [if_neg (by decide +kernel),if_pos rfl]
 | swap=>
  have e:itemS .swap=Str.ofString "swap" := by decide +kernel
  rw [e];unfold itemR;rw [if_neg (by decide +kernel),if_neg (by decide +kernel),if_pos rfl]
 | turn z=>
  refine two turnS z (by simp [kinds,turnS]) (g z h) (item_list _) ?_
  unfold pairR
  rw [if_pos ⟨.inl rfl,wordB_iff.mpr h⟩,if_pos rfl]
 | add z=>
  refine two addS z (by simp [kinds,addS]) (g z h) (item_list _) ?_
  unfold pairR
  rw [if_pos ⟨.inr rfl,wordB_iff.mpr h⟩,if_neg (by decide +kernel)]
 | skip m=>
  refine two skipS (numS (m:Int)) (by simp [kinds,skipS]) (fun hc=>by have:=numS_digits m 32 hc;omega) (item_list _) ?_
  unfold pairR
  rw [if_neg (fun c=>absurd c.1 (by decide +kernel)),if_pos rfl,cnt_num h.1 (h80 m rfl)]
  show some (Sk.skip ((m:Int)).toNat)=_
  rw [Int.toNat_natCast]
def ok80 (st:Sk):Prop:=okS st/\∀ m,st=.skip m->m<=80
theorem read_kw {n:Nat} (h:n<=80):readAll (kw n)=some (List.replicate n .keep):=by
 unfold kw
 by_cases h0:n=0
 ·rw [if_pos h0,h0];rfl
 ·rw [if_neg h0]
  show ((itemR (numS (n:Int))).bind fun a=>(some []).map fun b=>a++b)=_
  rw [read_num (by omega) h]
  show some (_++[])=_
  rw [List.append_nil]
theorem read_items:∀ (sts:List Sk) (done:List Sk) (x:List Str × Nat),(∀ st ∈ sts,ok80 st)->x.2+sts.length<=80->readAll x.1=some done->readAll ((sts.foldl wStep x).1++kw (sts.foldl wStep x).2)=some (done++List.replicate x.2 .keep++sts)
 | [],done,x,_,hn,hd=>by
  show readAll (x.1++kw x.2)=_
  rw [readAll_append,hd,read_kw (by have:x.2+0<=80:=hn;omega)]
  show some (done++_)=_
  rw [List.append_nil]
 | st :: r,done,x,ho,hn,hd=>by
  rw [List.foldl_cons]
  rw [List.length_cons] at hn
  have hr:∀ s ∈ r,ok80 s:=fun s hs=>ho s (List.mem_cons_of_mem _ hs)
  have hs:=ho st List.mem_cons_self
  cases hk:isKeep st with
  | true=>
   have e:wStep x st=(x.1,x.2+1):=by unfold wStep;rw [if_pos hk]
   have est:st=.keep:=by cases st <;> first | rfl | cases hk
   rw [e,read_items r done (x.1,x.2+1) hr (by show x.2+1+r.length<=80;omega) hd,est]
   show some (done++List.replicate (x.2+1) Sk.keep++r)=_
   rw [List.replicate_succ']
   simp
  | false=>
   have e:wStep x st=(x.1++kw x.2++[itemS st],0):=by unfold wStep;rw [if_neg (by rw [hk];exact Bool.false_ne_true)]
   have h2:readAll (x.1++kw x.2++[itemS st])=some (done++List.replicate x.2 .keep++[st]):=by
    rw [readAll_append,readAll_append,hd,read_kw (by omega)]
    show ((itemR (itemS st)).bind fun a=>(some []).map fun b=>a++b).map _=_
    rw [read_item hs.1 hs.2 hk];rfl
   rw [e,read_items r _ (x.1++kw x.2++[itemS st],0) hr (by show 0+r.length<=80;omega) h2]
   show some (_++[]++r)=_
   simp
theorem items_comma:∀ (sts:List Sk) (x:List Str × Nat),(∀ st ∈ sts,okS st)->(∀ z ∈ x.1,44 ∉ z.cps.toList)->∀ z ∈ (sts.foldl wStep x).1++kw (sts.foldl wStep x).2,44 ∉ z.cps.toList
 | [],x,_,hx=>fun z hz=>by
  rcases List.mem_append.mp hz with hz | hz
  ·exact hx z hz
  ·unfold kw at hz
   split at hz
   ·cases hz
   ·rw [List.mem_singleton.mp hz]
    intro hc
    have:=numS_digits _ 44 hc
    omega
 | st :: r,x,ho,hx=>by
  rw [List.foldl_cons]
  refine items_comma r _ (fun s hs=>ho s (List.mem_cons_of_mem _ hs)) fun z hz=>?_
  unfold wStep at hz
  split at hz
  ·exact hx z hz
  ·rcases List.mem_append.mp hz with hz | hz
   ·rcases List.mem_append.mp hz with hz | hz
    ·exact hx z hz
    ·unfold kw at hz
     split at hz
     ·cases hz
     ·rw [List.mem_singleton.mp hz]
      intro hc
      have:=numS_digits _ 44 hc
      omega
   ·rw [List.mem_singleton.mp hz]
    exact item_comma (ho st List.mem_cons_self)
theorem text_ne_C {ws:List Str} (hn:ws ≠ []) (hp:∀ z ∈ ws,z ≠ Str.ofString ""):Txt.join (Str.ofString ", ") ws ≠ Str.ofString "" := by
 intro e
 have h1:=join_C ws
 rw [<-cm_eq,e] at h1
 have h0:(Str.ofString "").cps.toList=[]:=by decide +kernel
 rw [h0] at h1
 cases ws with
 | nil=>exact hn rfl
 | cons z r=>
  cases r with
  | nil=>
   have h2:[]=z.cps.toList:=h1
   exact hp z List.mem_cons_self (by
    apply Str.ext'
    apply Array.toList_inj.mp
    rw [<-h2,h0])
  | cons y r=>
   have h2:[]=z.cps.toList++44 :: 32 :: joinC ((y :: r).map fun z=>z.cps.toList):=h1
   have:=congrArg List.length h2
   rw [List.length_append,List.length_cons] at this
   simp at this
theorem item_ne {z:Str} {sts:List Sk} (h:itemR z=some sts):z ≠ Str.ofString "" := fun e=>by
 subst e
 have:itemR (Str.ofString "")=none:=by decide +kernel
 rw [this] at h;cases h
theorem readAll_ne:∀ {ws:List Str} {sts:List Sk},readAll ws=some sts->∀ z ∈ ws,z ≠ Str.ofString ""
 | [],_,_=>fun _ z=>nomatch z
 | y :: r,sts,h=>fun z hz=>by
  have h':((itemR y).bind fun a=>(readAll r).map fun b=>a++b)=some sts:=h
  cases hy:itemR y with
  | none=>rw [hy] at h';cases h'
  | some a=>
   cases hr:readAll r with
   | none=>rw [hy,hr] at h';cases h'
   | some b=>
    rcases List.mem_cons.mp hz with e | hz
    ·rw [e];exact item_ne hy
    ·exact readAll_ne hr z hz
theorem readS_join {ws:List Str} {sts:List Sk} (h:readAll ws=some sts) (hc:∀ z ∈ ws,44 ∉ z.cps.toList) (hn:sts.length<=80):readS (Txt.join (Str.ofString ", ") ws)=some sts:=by
 unfold readS
 by_cases h0:ws=[]
 ·subst h0
  have:sts=[]:=by cases h;rfl
  subst this
  have e:Txt.join (Str.ofString ", ") []=Str.ofString "" := by decide +kernel
  rw [if_pos e]
 ·rw [if_neg (text_ne_C h0 (readAll_ne h)),split_join_C h0 hc,h]
  show (if 80 < sts.length then none else some sts)=_
  rw [if_neg (by omega)]
theorem readS_text {sts:List Sk} (ho:∀ st ∈ sts,ok80 st) (hn:sts.length<=80):readS (textS sts)=some sts:=by
 have h1:=read_items sts [] ([],0) ho (by show 0+sts.length<=80;omega) rfl
 exact readS_join h1 (items_comma sts ([],0) (fun st hs=>(ho st hs).1) (fun _ z=>nomatch z)) hn
structure TupsAt (H:Hp) (ts:List Addr) (sts:List Sk):Prop where
 len:ts.length=sts.length
 item:∀ (i:Nat) (t:Addr) (st:Sk),ts[i]?=some t->sts[i]?=some st->H t=some (.tup (stepV st))/\okS st
theorem TupsAt.at {K:PySem.W.Frag} {H:Hp} {ts:List Addr} {sts:List Sk} (h:TupsAt H ts sts):StepsAt K H ts sts:=
 ⟨h.len,fun i t st e1 e2=>⟨SqT.of (h.item i t st e1 e2).1,(h.item i t st e1 e2).2⟩⟩
theorem TupsAt.mono {H H':Hp} {ts:List Addr} {sts:List Sk} (S:Same H H') (h:TupsAt H ts sts):TupsAt H' ts sts:=
 ⟨h.len,fun i t st e1 e2=>⟨S _ _ (h.item i t st e1 e2).1,(h.item i t st e1 e2).2⟩⟩
theorem TupsAt.nil {H:Hp}:TupsAt H [] []:=⟨rfl,fun i t st e _=>by simp at e⟩
theorem TupsAt.app {H:Hp} {ts us:List Addr} {sts sus:List Sk} (h:TupsAt H ts sts) (h2:TupsAt H us sus):TupsAt H (ts++us) (sts++sus):=by
 refine ⟨by rw [List.length_append,List.length_append,h.len,h2.len],fun i t st e1 e2=>?_⟩
 by_cases hi:i < ts.length
 ·rw [List.getElem?_append_left hi] at e1
  rw [List.getElem?_append_left (by rw [<-h.len];exact hi)] at e2
  exact h.item i t st e1 e2
 ·rw [List.getElem?_append_right (by omega)] at e1
  rw [List.getElem?_append_right (by rw [<-h.len];omega),<-h.len] at e2
  exact h2.item _ t st e1 e2
theorem TupsAt.one {H:Hp} {t:Addr} {st:Sk} (h:H t=some (.tup (stepV st))) (ho:okS st):TupsAt H [t] [st]:=by
 refine ⟨rfl,fun i t' st' e1 e2=>?_⟩
 cases i with
 | zero=>cases e1;cases e2;exact ⟨h,ho⟩
 | succ i=>simp at e1
theorem TupsAt.rep {H:Hp} {t:Addr} {st:Sk} (h:H t=some (.tup (stepV st))) (ho:okS st):∀ n:Nat,TupsAt H (List.replicate n t) (List.replicate n st)
 | 0=>TupsAt.nil
 | n+1=>by
  have:=(TupsAt.one h ho).app (TupsAt.rep h ho n)
  exact this
theorem TupsAt.set {H:Hp} {l:Addr} {ts:List Addr} {sts:List Sk} {ys:List V} {o:HO} (h:TupsAt H ts sts) (hl:H l=some (.lst ys)):TupsAt (upd H l o) ts sts:=
 ⟨h.len,fun i t st e1 e2=>⟨by
  have e:=(h.item i t st e1 e2).1
  have n:t ≠ l:=fun z=>by rw [z,hl] at e;cases e
  rw [upd_ne n];exact e,(h.item i t st e1 e2).2⟩⟩
theorem repFlat {α:Type} (x:α):∀ n:Nat,(List.replicate n [x]).flatten=List.replicate n x
 | 0=>rfl
 | n+1=>by rw [List.replicate_succ,List.flatten_cons,repFlat x n,List.replicate_succ];rfl
theorem freeNe {H:Hp} {p r:Addr} {o:HO} (h:upd H p o r=none):r ≠ p/\H r=none:=by
 have n:r ≠ p:=fun e=>by rw [e,upd_same] at h;cases h
 exact ⟨n,by rw [upd_ne n] at h;exact h⟩
theorem in_two (k a b:Str):inV (.str k) [.str a,.str b]=true ↔ k=a\/k=b:=by
 show ((a == k) || ((b == k) || false))=true ↔ _
 rw [Bool.or_false,Bool.or_eq_true,beq_iff_eq,beq_iff_eq]
 exact ⟨fun h=>h.imp Eq.symm Eq.symm,fun h=>h.imp Eq.symm Eq.symm⟩
theorem in_three (k a b c:Str):inV (.str k) [.str a,.str b,.str c]=true ↔ k=a\/k=b\/k=c:=by
 show ((a == k) || ((b == k) || ((c == k) || false)))=true ↔ _
 rw [Bool.or_false,Bool.or_eq_true,Bool.or_eq_true,beq_iff_eq,beq_iff_eq,beq_iff_eq]
 exact ⟨fun h=>h.imp Eq.symm fun h=>h.imp Eq.symm Eq.symm,fun h=>h.imp Eq.symm fun h=>h.imp Eq.symm Eq.symm⟩
theorem split_small {z y:Str} (hy:1<=y.length):(Txt.split z y).length<=z.length+2/\∀ m ∈ Txt.split z y,m.length<=z.length+1:=by
 refine ⟨PyProof.Rows.split_le z y,fun m hm=>?_⟩
 have h:=PyProof.Rows.split_weight z y hy
 have:m.length<=((Txt.split z y).map (·.length)).sum:=by
  generalize Txt.split z y=l at hm
  clear h
  induction l with
  | nil=>cases hm
  | cons a r ih=>
   rw [List.map_cons,List.sum_cons]
   rcases List.mem_cons.mp hm with e | hm
   ·rw [e];omega
   ·have:=ih hm;omega
 omega
theorem item_rest {z:Str} (n1:z ≠ Str.ofString "lose") (n2:z ≠ Str.ofString "twice") (n3:z ≠ Str.ofString "swap") (hc:cntI z=none):itemR z=match Txt.split z (Str.ofString " ") with
  | [a,b]=>(pairR a b).map fun st=>[st]
  | _=>none:=by
 unfold itemR
 rw [if_neg n1,if_neg n2,if_neg n3,hc]
theorem sqT_mod {K:PySem.W.Frag} {a:Addr} {ws:List (Str × Tok)} {n:Nat} {sl:Array (Option Value)} (h:K.lookup a=some ⟨.type "tuple",none,.seq (ws.map fun p=>Value.str p.1 p.2).toArray n,sl⟩) (hz:ws.length<=1000) (H:Hp):SqT K H a (ws.map fun p=>V.str p.1):=by
 refine .inr ⟨_,_,n,h,rfl,rfl,by rw [List.size_toArray,List.length_map];exact few (by omega),?_⟩
 rw [List.toList_toArray]
 clear h hz
 induction ws with
 | nil=>exact .nil
 | cons p r ih=>exact .cons ⟨p.2,rfl⟩ ih
theorem comp_grow {α:Type} {J:It} {H:Hp} {as:List α} {v:α->V} {te:TE} {Q:VK} {rest:L2.St} (I:Nat->List V->Hp->Prop) (hs:∀ i acc H',i<=as.length->I i acc H'->Src J H' (as.map v)) (hz:as.length<=sizeLine) (h0:I 0 [] H)
  (hl:∀ i acc H',I i acc H'->acc.length=i) (he:∀ i a acc H',as[i]?=some a->I i acc H'->∀ k:VK,(∀ x H2,I (i+1) (acc++[x]) H2->k x H2)->te (some (v a) :: rest) H' k)
  (hq:∀ acc H',I as.length acc H'->∀ D,H' D=none->Q (.ref D) (upd H' D (.lst acc))):wComp J (gName 0) tYes te Q (none :: rest) H:=by
 refine ⟨fun i m σ acc H'=>I i acc H'/\i<=as.length/\m=as.length - i/\∃ o,σ=o :: rest,⟨as.length,h0,Nat.zero_le _,rfl,none,rfl⟩,?_⟩
 rintro i m σ acc H' ⟨hI,hi,rfl,o,rfl⟩
 have hacc:=hl i acc H' hI
 have S:=hs i acc H' hi hI
 by_cases hlt:i < as.length
 ·refine .inr ⟨S.go i (by rw [List.length_map];exact hlt),fun x H1 y=>?_⟩
  obtain ⟨rfl,hx⟩:=S.yld i x H1 (by rw [List.length_map];exact hlt) y
  rw [List.getElem?_map,List.getElem?_eq_getElem hlt] at hx
  have hx':v as[i]=x:=Option.some.inj hx
  subst hx'
  show te (some (v as[i]) :: rest) H1 _
  exact he i as[i] acc H1 (List.getElem?_eq_getElem hlt) hI _ fun x H2 h2=>⟨by omega,as.length - (i+1),by omega,h2,hlt,rfl,_,rfl⟩
 ·have ei:i=as.length:=by omega
  subst ei
  exact .inl ⟨S.stop _ (by rw [List.length_map];exact Nat.le_refl _),by omega,hq acc H' hI⟩
end Vm
namespace L3
open PySem PySem.Spec PyProof.Rows L2
def Itr3 (lo c:Int) (n:Nat):It:=⟨fun i _=>i < n,fun i H x H'=>H'=H/\x=.int (lo+(i:Nat) * c),fun i _=>n<=i⟩
theorem turn_range3 {P:Program} {w:World} {K:PySem.W.Frag} {tg:Expr} (it:Addr) (lo c:Int) (n:Nat):Turn P w K tg (Itr3 lo c n) [it] it (fun i h=>IsRangeIter h it (lo+(i:Nat) * c) ((n:Int) - (i:Nat)) c) where
 mem:=List.mem_singleton.mpr rfl
 obj:=fun i h st b hb=>by
  rw [List.mem_singleton.mp hb]
  exact ⟨_,st,fun v z=>nomatch (show Data.fields _=Data.cell v from z)⟩
 keep:=fun i h h' st k=>k it (List.mem_singleton.mpr rfl) _ st
 item:=by
  intro X hP hw hK hc i pins s σ H E I hf st hg
  subst hP hw hK
  obtain ⟨f0,f1,f2,f3,f4,f5⟩:=hf it (List.mem_singleton.mpr rfl)
  refine (Walks.range (prog:=X.prog) (w:=X.w) (I.ok.hd hc) it lo c n).item i s _ _ hg st fun v h' tk hv st' kk=>?_
  obtain ⟨t,rfl⟩:=hv
  have I1:Inv X pins σ H { s with heap:=h',toks:=tk }:=I.turned (fun b o hb e=>kk b o (fun z=>hb (List.mem_singleton.mp z)) e) f0 f1 f3 f4 f5
  exact ⟨_,rfl,go_of (s:={ s with heap:=h',toks:=tk }) (n := "range_iterator") st' rfl rfl (by decide) ⟨.int (lo+(i:Nat) * c),H,I1,⟨t,rfl⟩,⟨rfl,rfl⟩,st',fun b hb=>(hf b hb).1⟩⟩
 done:=by
  intro X hP hw hK hc i pins s σ H E I hf st hg
  subst hP hw hK
  obtain ⟨f0,f1,f2,f3,f4,f5⟩:=hf it (List.mem_singleton.mpr rfl)
  have hle:(n:Int) - (i:Nat)<=0:=by have:n<=i:=hg;omega
  exact wpAny_pyNext_range_end (I.ok.hd hc) st hle fun h' eb=>⟨rfl,I.turned (t':=s.toks) (fun b o hb e=>eb b o hb e) f0 f1 f3 f4 f5⟩
 self:=fun _ _ _ _ _ st h=>wpAny_pyIter_rangeiter st h
section
variable {X:Cx} {tg:Expr}
theorem range_it3 {pins:List (Addr × Obj)} {σ:L2.St} {H:Hp} {s:Shared} {R:It->Hp->Prop} {E:Value->Shared->Prop} {lo hi c:Int} {n:Nat} {t u v:Tok} {tk:Nat} (I:Inv X pins σ H s) (hs:Builtin.Range.small lo hi c=true) (hn:Builtin.Range.rangeSize lo hi c=(n:Int))
  (q:R (Itr3 lo c n) H):wpAny (model X.prog X.w) X.A (pyIter (.ref s.heap.objs.size)) (PIE X pins σ tg R) E { s with heap:=s.heap.push { cls:=.type "range",data:=.fields #[.int lo t,.int hi u,.int c v] },toks:=tk }:=by
 refine wpAny_pyIter_range (IsRange.new ..) hs ?_
 have I1:Inv X pins σ H { s with heap:=s.heap.push { cls:=.type "range",data:=.fields #[.int lo t,.int hi u,.int c v] },toks:=tk }:=I.kept fun b o e=>Heap.get?_push_of_some _ e
 generalize hg:s.heap.push { cls:=.type "range",data:=.fields #[.int lo t,.int hi u,.int c v] }=g at I1
 refine ⟨g.objs.size,[g.objs.size],_,_,H,rfl,I1.kept (t':=tk) fun b o e=>Heap.get?_push_of_some _ e,turn_range3 _ lo c n,?_,fun b hb=>?_,q⟩
 ·show IsRangeIter _ _ (lo+((0:Nat):Int) * c) ((n:Int) - ((0:Nat):Int)) c
  rw [show lo+((0:Nat):Int) * c=lo by simp,show (n:Int) - ((0:Nat):Int)=Builtin.Range.rangeSize lo hi c by rw [hn];simp]
  exact Heap.get?_push_size _ rfl
 ·rw [List.mem_singleton.mp hb]
  exact I1.fpOk (Nat.le_refl _) (I1.hok.fresh (Nat.le_refl _))
def iRng3 (ta:TA):TI:=fun σ H R=>ta σ H fun vs H1=>∃ (i j c:Int) (n:Nat),vs=[.int i,.int j,.int c]/\c ≠ 0/\c.natAbs < 1073741824/\Builtin.Range.small i j c=true/\Builtin.Range.rangeSize i j c=(n:Int)/\R (Itr3 i c n) H1
theorem pi_range3 {a b d:Expr} {ta:TA} {p pos:Pos} (hg:Gl X "range") (hm:X.mg "range" = none) (ha:PA X [a,b,d] ta) (hs:starEach [a,b,d] X.env=[(false,eval a X.env),(false,eval b X.env),(false,eval d X.env)]:=by rfl) (hs2:starEach [b,d] X.env=[(false,eval b X.env),(false,eval d X.env)]:=by rfl) :
  PI X tg (.Call (.Name "range" p) [a,b,d] [] pos) (iRng3 ta):=by
 intro pins s σ H R I h
 refine Call_ (ld_blt I hg hm boot_range (PyProof.Rows.callWith_type1 (thn (ha pos pins s σ H _ I h) fun us s1 ⟨vs,H1,I1,r1,q1⟩=>?_) (by rw [hs,hs2]) (by rw [hs2];rfl)))
 obtain ⟨i,j,c,n,e,hc,hc2,h1,h2,q⟩:=q1
 subst e
 cases r1 with
 | cons r rr=>
 cases rr with
 | cons r' rr=>
 cases rr with
 | cons r'' rr=>
  cases rr
  obtain ⟨t,rfl⟩:=r
  obtain ⟨t',rfl⟩:=r'
  obtain ⟨t'',rfl⟩:=r''
  exact call_range_3 hc (range_it3 I1 h1 h2 q) (Or.inl (PyProof.noPylong_small hc2))
theorem for_range3 {lo c:Int} {n:Nat} {g:TG} {tb:TS} {D:Ends} {σ:L2.St} {H:Hp} (Pv:Nat->L2.St->Hp->Prop) (h0:Pv 0 σ H)
  (hs:∀ i σ H,i < n->Pv i σ H->g (.int (lo+(i:Nat) * c)) σ H fun σ2 H2=>tb { D with nx:=Pv (i+1),ct:=Pv (i+1),bk:=D.nx } σ2 H2) (hd:∀ σ H,Pv n σ H->D.nx σ H) :
  ∃ W:Nat->Nat->L2.St->Hp->Prop,(∃ m,W 0 m σ H)/\∀ i m σ H,W i m σ H →
   ((Itr3 lo c n).stop i H/\D.nx σ H)\/((Itr3 lo c n).go i H/\∃ N:L2.St->Hp->Prop,(∀ σ' H',N σ' H'->∃ m',m' < m/\W (i+1) m' σ' H')/\∀ x H',(Itr3 lo c n).yld i H x H'->g x σ H' fun σ2 H2=>tb { D with nx:=N,ct:=N,bk:=D.nx } σ2 H2):=by
 refine ⟨fun i m σ H=>m=n - i/\i<=n/\Pv i σ H,⟨n,by simp,Nat.zero_le _,h0⟩,?_⟩
 rintro i m σ H ⟨rfl,hi,p⟩
 rcases Nat.lt_or_ge i n with hlt | hge
 ·refine .inr ⟨hlt,Pv (i+1),fun σ' H' p'=>⟨n - (i+1),by omega,rfl,hlt,p'⟩,?_⟩
  rintro x H' ⟨rfl,rfl⟩
  exact hs i σ _ hlt p
 ·have e:i=n:=by omega
  subst e
  exact .inl ⟨Nat.le_refl _,hd σ H p⟩
end
end L3
namespace L3
open PySem PySem.Spec PyProof.Rows L2
section
variable {X:Cx}
theorem op_mulB:OpR X (binaryOp .Mult) (rI (fun i j=>IntMulOk i j) fun i j=>.int (i * j)):=opI fun _ _ _ _ _ _ _ hc q=>mul_int q hc
end
end L3
namespace HT
open PySem PySem.Spec PyProof.Rows
section
variable {prog:Program} {w:World} {A:Around} {E:Value->Shared->Prop} {s:Shared}
end
end HT
namespace L3
open PySem PySem.Spec PyProof.Rows L2
section
variable {X:Cx} {e es:Expr} {te ts:TE} {pos p2:Pos}
end
end L3
namespace L3
open PySem PySem.W PySem.Calls PySem.Spec PyProof.Rows L2
theorem bits_lay {ns:List Int} (h:WData.layableAll [WData.list (ns.map WData.int)]=true):∀ m ∈ ns,Builtin.Int.intBits m<=1048576:=fun m hm=>by
 have h1:(WData.list (ns.map WData.int)).layable=true:=layableW_arg h _ List.mem_cons_self
 have h2:(WData.int m).layable=true:=layableW_item h1 _ (List.mem_map.mpr ⟨m,hm,rfl⟩)
 exact PyData.bits_of_layable (layable0_of_all (lay0_int h2))
theorem walk_ofB {l:PySem.W.OpenLaw} {n k:Nat} {q:Program} {loose:List Str} {XP:(Str->Option Value)->Heap->Prop} {YP:World->Heap->Prop} {d:DefRec} {K:Params->PySem.W.Frag} {CX:World->CXT} {sp:World->Sp} {x:Str}
  (hn:l.most=some n) (hn2:n<=sizeLine) (hdf:d.params.defaults=[]) (hr:Room k callerA) (hY:∀ (w:World) (h:Heap),YP w h->(K w.params).In h)
  (F:∀ (w:World) (mg:Str->Option Value) (fa:Addr) (h:Heap),(K w.params).In h->h.Ns mainGlobals mg->mg d.name=some (.ref fa) →
   ∃ fd:FuncData,(∀ (s:Shared) (u:Value),BindsTo s fd ⟨[u],[]⟩ [(x,u)])/\∀ base:Heap,(K w.params).In base->base.Ns mainGlobals mg->FnOk l.prog w (K w.params) mg base (CX w) k fa fd [x] (sp w))
  (hsp:∀ (w:World) (H:Hp) (a:Addr) (ns:List Int),ns.length<=n->(∀ m ∈ ns,Builtin.Int.intBits m<=1048576)->Only H->SqL (K w.params) H a (ns.map V.int)->sp w [.ref a] H (fun v _=>v=.bl true) fun _ _ _=>False)
  (hCX:∀ (w:World) (H:Hp) (s:Shared) (e:Value) (s':Shared),CX w [] H s (fun _ _ _=>False) e s'->False) :
  PySem.W.WalkO q loose XP YP l.row.toRowW d [] (fun f vs=>PySem.call f vs):=by
 intro w s₀ s₁ mg mb G Y fa o pm cd doc dV kV ho hd hcd hD hmg hg args vals as hpre hlay hrd hwl hlo
 obtain rfl:dV=.none:=Dflts.none hD hdf
 obtain rfl:kV=.none:=Dflts.noKw hD
 obtain ⟨a,vs,ns,rfl,rfl,hobj,hints,hlen⟩:=Att.script_of hn hpre hwl
 have KX:=hY w _ Y
 obtain ⟨fd,hb,hF⟩:=F w mg fa _ KX G.T.g hmg
 refine enter_call (codeAny_mono (law_call KX G.T.g G.T.b G.T.builtins G.T.nolimit hg hobj hints (Nat.le_trans hlen hn2) hr hF hb (fun H hO hS=>hsp w H a ns hlen (bits_lay hlay) hO hS) fun H e s'=>hCX w H s₁ e s') fun r s' hq=>?_)
 obtain ⟨rfl,h2,h3,h4⟩:=hq
 exact ⟨.inl ⟨.bool true,.bool true,[],rfl,fun _=>rfl,.bool true,Att.post_true l _,fun _=>⟨List.Pairwise.nil,fun _ hm=>(nomatch hm)⟩⟩,h2,h3,h4⟩
end L3
namespace Vm
open PySem PySem.Spec PyProof.Rows L2 L3
def swapW (es cs:List Str) (i j:Nat):Bool:=if i+1 < es.length then (if gt es i=gt es (i+1) then false else decide ((cs.drop j).take 2=[gt es (i+1),gt es i])) else false
def skips (es:List Str) (i:Nat):List Nat:=if i=0 then [] else ((List.range (es.length - i)).filter fun k=>decide (gt es (i+k)=gt es (i - 1))).map (·+1)
abbrev Way:=Sk × Nat × Nat
def w1 (es cs:List Str) (i j:Nat):List Way:=if i < es.length/\j < cs.length then [((if gt es i=gt cs j then .keep else .turn (gt cs j)),i+1,j+1)] else []
def w2 (es:List Str) (i j:Nat):List Way:=if i < es.length then [(.lose,i+1,j)] else []
def w3 (cs:List Str) (i j:Nat):List Way:=if j < cs.length then [(.add (gt cs j),i,j+1)] else []
def w4 (cs:List Str) (i j:Nat):List Way:=if 0 < j/\j < cs.length/\gt cs j=gt cs (j - 1) then [(.twice,i,j+1)] else []
def w5 (es cs:List Str) (i j:Nat):List Way:=if swapW es cs i j=true then [(.swap,i+2,j+2)] else []
def w6 (es:List Str) (i j:Nat):List Way:=(skips es i).map fun k=>(.skip k,i+k,j)
def ways (es cs:List Str) (i j:Nat):List Way:=w1 es cs i j++w2 es i j++w3 cs i j++w4 cs i j++w5 es cs i j++w6 es i j
theorem skips_in {es:List Str} {i k:Nat} (h:k ∈ skips es i):1<=k/\i+k<=es.length/\1<=i:=by
 unfold skips at h
 split at h
 ·cases h
 ·obtain ⟨m,hm,rfl⟩:=List.mem_map.mp h
  have:=List.mem_range.mp (List.mem_filter.mp hm).1
  omega
theorem ways_ok {es cs:List Str} {i j:Nat} (hc:∀ z ∈ cs,Good z) (he:es.length<=1000):∀ x ∈ ways es cs i j,okS x.1:=by
 intro x hx
 unfold ways at hx
 simp only [List.mem_append] at hx
 rcases hx with ((((h | h) | h) | h) | h) | h
 ·unfold w1 at h
  split at h
  ·rename_i hh
   rw [List.mem_singleton.mp h]
   show okS (if _ then _ else _)
   split
   ·trivial
   ·exact hc _ (gt_mem hh.2)
  ·cases h
 ·unfold w2 at h
  split at h
  ·rw [List.mem_singleton.mp h];trivial
  ·cases h
 ·unfold w3 at h
  split at h
  ·rename_i hh
   rw [List.mem_singleton.mp h];exact hc _ (gt_mem hh)
  ·cases h
 ·unfold w4 at h
  split at h
  ·rw [List.mem_singleton.mp h];trivial
  ·cases h
 ·unfold w5 at h
  split at h
  ·rw [List.mem_singleton.mp h];trivial
  ·cases h
 ·unfold w6 at h
  obtain ⟨k,hk,rfl⟩:=List.mem_map.mp h
  have:=skips_in hk
  exact ⟨this.1,by omega⟩
def wayV (t:Addr) (x:Way):List V:=[.ref t,.int ((x.2.1:Nat):Int),.int ((x.2.2:Nat):Int)]
structure WaysAt (H:Hp) (as:List Addr) (ws:List Way):Prop where
 len:as.length=ws.length
 item:∀ (k:Nat) (a:Addr) (x:Way),as[k]?=some a->ws[k]?=some x->∃ t,H a=some (.tup (wayV t x))/\H t=some (.tup (stepV x.1))
theorem WaysAt.mono {H H':Hp} {as:List Addr} {ws:List Way} (S:Same H H') (h:WaysAt H as ws):WaysAt H' as ws:=
 ⟨h.len,fun k a x e1 e2=>by
  obtain ⟨t,h1,h2⟩:=h.item k a x e1 e2
  exact ⟨t,S _ _ h1,S _ _ h2⟩⟩
theorem WaysAt.nil {H:Hp}:WaysAt H [] []:=⟨rfl,fun k a x e _=>by simp at e⟩
theorem WaysAt.set {H:Hp} {l:Addr} {ys:List V} {o:HO} {as:List Addr} {ws:List Way} (h:WaysAt H as ws) (hl:H l=some (.lst ys)):WaysAt (upd H l o) as ws:=
 ⟨h.len,fun k a x e1 e2=>by
  obtain ⟨t,h1,h2⟩:=h.item k a x e1 e2
  have n1:a ≠ l:=fun z=>by rw [z,hl] at h1;cases h1
  have n2:t ≠ l:=fun z=>by rw [z,hl] at h2;cases h2
  exact ⟨t,by rw [upd_ne n1];exact h1,by rw [upd_ne n2];exact h2⟩⟩
theorem WaysAt.app {H:Hp} {as bs:List Addr} {ws vs:List Way} (h:WaysAt H as ws) (h2:WaysAt H bs vs):WaysAt H (as++bs) (ws++vs):=by
 refine ⟨by rw [List.length_append,List.length_append,h.len,h2.len],fun i t st e1 e2=>?_⟩
 by_cases hi:i < as.length
 ·rw [List.getElem?_append_left hi] at e1
  rw [List.getElem?_append_left (by rw [<-h.len];exact hi)] at e2
  exact h.item i t st e1 e2
 ·rw [List.getElem?_append_right (by omega)] at e1
  rw [List.getElem?_append_right (by rw [<-h.len];omega),<-h.len] at e2
  exact h2.item _ t st e1 e2
theorem WaysAt.one {H:Hp} {a t:Addr} {x:Way} (h1:H a=some (.tup (wayV t x))) (h2:H t=some (.tup (stepV x.1))):WaysAt H [a] [x]:=by
 refine ⟨rfl,fun k a' x' e1 e2=>?_⟩
 cases k with
 | zero=>cases e1;cases e2;exact ⟨t,h1,h2⟩
 | succ k=>simp at e1
theorem way_add {H H2:Hp} {l t a:Addr} {as:List Addr} {ws:List Way} {x:Way} (S:Same H H2) (hl:H l=none) (h1:H2 l=some (.lst (as.map V.ref))) (hW:WaysAt H2 as ws) (ht:H2 t=none) (ha:upd H2 t (.tup (stepV x.1)) a=none) :
  upd (upd H2 t (.tup (stepV x.1))) a (.tup (wayV t x)) l=some (.lst (as.map V.ref)) ∧
  upd (upd (upd H2 t (.tup (stepV x.1))) a (.tup (wayV t x))) l (.lst (as.map V.ref++[.ref a])) l=some (.lst ((as++[a]).map V.ref)) ∧
  Same H (upd (upd (upd H2 t (.tup (stepV x.1))) a (.tup (wayV t x))) l (.lst (as.map V.ref++[.ref a]))) ∧
  WaysAt (upd (upd (upd H2 t (.tup (stepV x.1))) a (.tup (wayV t x))) l (.lst (as.map V.ref++[.ref a]))) (as++[a]) (ws++[x]):=by
 have S1:=same_upd (o:=.tup (stepV x.1)) ht
 have S2:=same_upd (o:=.tup (wayV t x)) ha
 have k1:=S2 _ _ (S1 _ _ h1)
 refine ⟨k1,by rw [upd_same,List.map_append];rfl,same_to ((S.trans S1).trans S2) hl,?_⟩
 refine WaysAt.set ?_ k1
 exact ((hW.mono S1).mono S2).app (WaysAt.one upd_same (S2 _ _ upd_same))
theorem cutV_two (cs:List Str) (j:Nat):cutV (cs.map V.str) (some ((j:Nat):Int)) (some (((j:Nat):Int)+2))=((cs.drop j).take 2).map V.str:=by
 have e:((j:Nat):Int)+2=((j+2:Nat):Int):=by omega
 unfold cutV
 rw [e,HT.sIx_nat,HT.sIx_nat,List.length_map,<-List.map_drop,<-List.map_take]
 congr 1
 by_cases h:j<=cs.length
 ·rw [Nat.min_eq_left h]
  by_cases h2:j+2<=cs.length
  ·rw [Nat.min_eq_left h2,Nat.add_sub_cancel_left]
  ·rw [Nat.min_eq_right (by omega),List.take_of_length_le (by rw [List.length_drop];omega),List.take_of_length_le (by rw [List.length_drop];omega)]
 ·rw [Nat.min_eq_right (by omega),Nat.min_eq_right (by omega),List.drop_of_length_le (Nat.le_refl _),List.drop_of_length_le (by omega)]
  simp
theorem cutTup {K:PySem.W.Frag} {H:Hp} {a:Addr} {xs:List V} {lo hi:Option Int} {Q:VK} (h:SqT K H a xs) (q:∀ p H',Same H H'->SqT K H' p (cutV xs lo hi)->Q (.ref p) H'):rSlTA K (.ref a) lo hi H Q:=by
 refine ⟨a,xs,rfl,h,fun hw=>q a H (Same.refl _) ?_,fun _ p hp=>q p _ (same_upd hp) (SqT.of upd_same)⟩
 have e:cutV xs lo hi=xs:=by
  unfold cutV
  rw [hw.1,hw.2,List.drop_zero,Nat.sub_zero,List.take_length]
 rw [e];exact h
theorem cutTake {α:Type} (g:α->V) (xs:List α) (n:Nat):cutV (xs.map g) none (some ((n:Nat):Int))=(xs.take n).map g:=by
 unfold cutV
 rw [HT.sIx_none,HT.sIx_nat,List.drop_zero,Nat.sub_zero,List.length_map,<-List.map_take]
 congr 1
 by_cases h:n<=xs.length
 ·rw [Nat.min_eq_left h]
 ·rw [Nat.min_eq_right (by omega),List.take_length,List.take_of_length_le (by omega)]
end Vm
namespace Vm
open PySem PySem.Spec PyProof.Rows L2 L3
abbrev Tb:=Nat->Nat->Option Int
def Tb.put (T:Tb) (d w:Nat) (v:Int):Tb:=fun a b=>if a=d/\b=w then some v else T a b
theorem Tb.put_same (T:Tb) (d w:Nat) (v:Int):T.put d w v d w=some v:=by simp [Tb.put]
theorem Tb.put_ne (T:Tb) {d w a b:Nat} (v:Int) (h:¬ (a=d/\b=w)):T.put d w v a b=T a b:=by simp [Tb.put,h]
def Tb.rel (pr:Nat->Sk->Int) (i j:Nat) (T:Tb) (x:Way):Tb:=
 match T i j with
 | none=>T
 | some t=>match T x.2.1 x.2.2 with
  | none=>T.put x.2.1 x.2.2 (t+pr i x.1)
  | some u=>if t+pr i x.1 < u then T.put x.2.1 x.2.2 (t+pr i x.1) else T
structure TabI (pr:Nat->Sk->Int) (Dn:Nat->Nat->Way->Prop) (T:Tb):Prop where
 z:T 0 0=some 0
 le:∀ a b x,Dn a b x->∃ t u,T a b=some t/\T x.2.1 x.2.2=some u/\u<=t+pr a x.1
 eq:∀ a b u,T a b=some u->¬ (a=0/\b=0)->∃ a' b' t x,Dn a' b' x/\x.2.1=a/\x.2.2=b/\T a' b'=some t/\u=t+pr a' x.1
theorem TabI.congr {pr:Nat->Sk->Int} {D D':Nat->Nat->Way->Prop} {T:Tb} (h:TabI pr D T) (e:∀ a b x,D a b x ↔ D' a b x):TabI pr D' T:=
 ⟨h.z,fun a b x k=>h.le a b x ((e a b x).mpr k),fun a b u hu hn=>by
  obtain ⟨a',b',t,x,k,r⟩:=h.eq a b u hu hn
  exact ⟨a',b',t,x,(e a' b' x).mp k,r⟩⟩
theorem TabI.more {pr:Nat->Sk->Int} {Dn:Nat->Nat->Way->Prop} {T:Tb} {i j:Nat} {t:Int} {x:Way} (h:TabI pr Dn T) (ht:T i j=some t) (h0:¬ (x.2.1=0/\x.2.2=0)) (hs:¬ (i=x.2.1/\j=x.2.2))
  (hd:∀ a b y,Dn a b y->¬ (a=x.2.1/\b=x.2.2)):TabI pr (fun a b y=>Dn a b y\/(a=i/\b=j/\y=x)) (T.rel pr i j x):=by
 have key:∀ v:Int,v=t+pr i x.1->(∀ u,T x.2.1 x.2.2=some u->v<=u)->TabI pr (fun a b y=>Dn a b y\/(a=i/\b=j/\y=x)) (T.put x.2.1 x.2.2 v):=by
  intro v hv hle
  refine ⟨?_,?_,?_⟩
  ·rw [Tb.put_ne _ _ (fun z=>h0 ⟨z.1.symm,z.2.symm⟩)];exact h.z
  ·rintro a b y (k | ⟨rfl,rfl,rfl⟩)
   ·obtain ⟨t',u',h1,h2,h3⟩:=h.le a b y k
    refine ⟨t',?_⟩
    rw [Tb.put_ne _ _ (hd a b y k)]
    by_cases e:y.2.1=x.2.1/\y.2.2=x.2.2
    ·refine ⟨v,h1,?_,?_⟩
     ·rw [e.1,e.2,Tb.put_same]
     ·have:=hle u' (by rw [<-e.1,<-e.2];exact h2)
      omega
    ·exact ⟨u',h1,by rw [Tb.put_ne _ _ e];exact h2,h3⟩
   ·exact ⟨t,v,by rw [Tb.put_ne _ _ hs];exact ht,Tb.put_same ..,by omega⟩
  ·intro a b u hu hn
   by_cases e:a=x.2.1/\b=x.2.2
   ·rw [e.1,e.2,Tb.put_same] at hu
    refine ⟨i,j,t,x,.inr ⟨rfl,rfl,rfl⟩,e.1.symm,e.2.symm,by rw [Tb.put_ne _ _ hs];exact ht,?_⟩
    injection hu with hu;omega
   ·rw [Tb.put_ne _ _ e] at hu
    obtain ⟨a',b',t',y,k,e1,e2,e3,e4⟩:=h.eq a b u hu hn
    exact ⟨a',b',t',y,.inl k,e1,e2,by rw [Tb.put_ne _ _ (hd a' b' y k)];exact e3,e4⟩
 unfold Tb.rel
 simp only [ht]
 cases hu:T x.2.1 x.2.2 with
 | none=>exact key _ rfl (fun u e=>by rw [hu] at e;cases e)
 | some u=>
  simp only []
  by_cases hlt:t+pr i x.1 < u
  ·rw [if_pos hlt]
   exact key _ rfl (fun u' e=>by rw [hu] at e;injection e with e;omega)
  ·rw [if_neg hlt]
   refine ⟨h.z,?_,?_⟩
   ·rintro a b y (k | ⟨rfl,rfl,rfl⟩)
    ·exact h.le a b y k
    ·exact ⟨t,u,ht,hu,by omega⟩
   ·intro a b u' hu' hn
    obtain ⟨a',b',t',y,k,r⟩:=h.eq a b u' hu' hn
    exact ⟨a',b',t',y,.inl k,r⟩
theorem Tb.rel_ne (pr:Nat->Sk->Int) (T:Tb) {i j a b:Nat} {x:Way} (h:¬ (a=x.2.1/\b=x.2.2)):T.rel pr i j x a b=T a b:=by
 unfold Tb.rel
 cases T i j with
 | none=>rfl
 | some t=>
  cases T x.2.1 x.2.2 with
  | none=>exact Tb.put_ne _ _ h
  | some u=>
   show (if t+pr i x.1 < u then _ else T:Tb) a b=T a b
   by_cases e:t+pr i x.1 < u
   ·rw [if_pos e];exact Tb.put_ne _ _ h
   ·rw [if_neg e]
def Fwd (m n:Nat) (E:Nat->Nat->List Way):Prop:=∀ i j,i<=m->j<=n->∀ x ∈ E i j,x.2.1<=m/\x.2.2<=n/\i<=x.2.1/\j<=x.2.2/\(i < x.2.1\/j < x.2.2)
def Bef (m n i j a b:Nat):Prop:=a<=m/\b<=n/\(a < i\/(a=i/\b < j))
def Gone (m n:Nat) (E:Nat->Nat->List Way) (i j:Nat) (ws:List Way):Nat->Nat->Way->Prop:=fun a b x=>(Bef m n i j a b/\x ∈ E a b)\/(a=i/\b=j/\x ∈ ws)
theorem Gone.zero {m n:Nat} {E:Nat->Nat->List Way} {a b:Nat} {x:Way}:¬ Gone m n E 0 0 [] a b x:=by
 rintro (⟨⟨_,_,q⟩,_⟩ | ⟨_,_,z⟩)
 ·omega
 ·simp at z
theorem Gone.next {m n:Nat} {E:Nat->Nat->List Way} {i j:Nat} (hi:i<=m) (hj:j<=n) (a b:Nat) (x:Way):Gone m n E i j (E i j) a b x ↔ Gone m n E i (j+1) [] a b x:=by
 unfold Gone Bef
 constructor
 ·rintro (⟨⟨h1,h2,h3⟩,h4⟩ | ⟨rfl,rfl,h⟩)
  ·exact .inl ⟨⟨h1,h2,by omega⟩,h4⟩
  ·exact .inl ⟨⟨hi,hj,by omega⟩,h⟩
 ·rintro (⟨⟨h1,h2,h3⟩,h4⟩ | ⟨_,_,h⟩)
  ·by_cases e:a=i/\b=j
   ·exact .inr ⟨e.1,e.2,by rw [<-e.1,<-e.2];exact h4⟩
   ·exact .inl ⟨⟨h1,h2,by omega⟩,h4⟩
  ·simp at h
theorem Gone.row {m n:Nat} {E:Nat->Nat->List Way} {i:Nat} (a b:Nat) (x:Way):Gone m n E i (n+1) [] a b x ↔ Gone m n E (i+1) 0 [] a b x:=by
 unfold Gone Bef
 constructor
 ·rintro (⟨⟨h1,h2,h3⟩,h4⟩ | ⟨_,_,h⟩)
  ·exact .inl ⟨⟨h1,h2,by omega⟩,h4⟩
  ·simp at h
 ·rintro (⟨⟨h1,h2,h3⟩,h4⟩ | ⟨_,_,h⟩)
  ·exact .inl ⟨⟨h1,h2,by omega⟩,h4⟩
  ·simp at h
def Come (m n:Nat) (E:Nat->Nat->List Way):Prop:=∀ i j,i<=m->j<=n->¬ (i=0/\j=0)->∃ a b x,Bef m n i j a b/\x ∈ E a b/\x.2.1=i/\x.2.2=j
theorem TabI.here {pr:Nat->Sk->Int} {m n i j:Nat} {E:Nat->Nat->List Way} {T:Tb} (hC:Come m n E) (h:TabI pr (Gone m n E i j []) T) (hi:i<=m) (hj:j<=n):∃ t,T i j=some t:=by
 by_cases e:i=0/\j=0
 ·exact ⟨0,by rw [e.1,e.2];exact h.z⟩
 ·obtain ⟨a,b,x,h1,h2,e1,e2⟩:=hC i j hi hj e
  obtain ⟨_,u,_,hu,_⟩:=h.le a b x (.inl ⟨h1,h2⟩)
  exact ⟨u,by rw [<-e1,<-e2];exact hu⟩
structure Least (pr:Nat->Sk->Int) (m n:Nat) (E:Nat->Nat->List Way) (F:Nat->Nat->Int):Prop where
 z:F 0 0=0
 le:∀ i j,i<=m->j<=n->∀ x ∈ E i j,F x.2.1 x.2.2<=F i j+pr i x.1
 eq:∀ i j,i<=m->j<=n->¬ (i=0/\j=0)->∃ a b x,Bef m n i j a b/\x ∈ E a b/\x.2.1=i/\x.2.2=j/\F i j=F a b+pr a x.1
theorem TabI.least {pr:Nat->Sk->Int} {m n:Nat} {E:Nat->Nat->List Way} {T:Tb} (hE:Fwd m n E) (hC:Come m n E) (h:TabI pr (Gone m n E (m+1) 0 []) T):(∀ i j,i<=m->j<=n->∃ t,T i j=some t)/\Least pr m n E (fun i j=>(T i j).getD 0):=by
 have here:∀ i j,i<=m->j<=n->∃ t,T i j=some t:=by
  intro i j hi hj
  by_cases e:i=0/\j=0
  ·exact ⟨0,by rw [e.1,e.2];exact h.z⟩
  ·obtain ⟨a,b,x,h1,h2,e1,e2⟩:=hC i j hi hj e
   obtain ⟨_,u,_,hu,_⟩:=h.le a b x (.inl ⟨⟨h1.1,h1.2.1,by have:=h1.1;omega⟩,h2⟩)
   exact ⟨u,by rw [<-e1,<-e2];exact hu⟩
 refine ⟨here,?_,?_,?_⟩
 ·show (T 0 0).getD 0=0
  rw [h.z];rfl
 ·intro i j hi hj x hx
  obtain ⟨t,u,h1,h2,h3⟩:=h.le i j x (.inl ⟨⟨hi,hj,by omega⟩,hx⟩)
  show (T x.2.1 x.2.2).getD 0<=(T i j).getD 0+_
  rw [h1,h2];exact h3
 ·intro i j hi hj hn
  obtain ⟨u,hu⟩:=here i j hi hj
  obtain ⟨a,b,t,x,hg,e1,e2,e3,e4⟩:=h.eq i j u hu hn
  obtain ⟨⟨b1,b2,_⟩,hx⟩ | ⟨_,_,z⟩:=hg
  ·have:=hE a b b1 b2 x hx
   refine ⟨a,b,x,⟨b1,b2,by omega⟩,hx,e1,e2,?_⟩
   show (T i j).getD 0=(T a b).getD 0+_
   rw [hu,e3];exact e4
  ·simp at z
structure Rest (pr:Nat->Sk->Int) (m n:Nat) (E:Nat->Nat->List Way) (R:Nat->Nat->Int):Prop where
 z:R m n=0
 le:∀ i j,i<=m->j<=n->∀ x ∈ E i j,R i j<=pr i x.1+R x.2.1 x.2.2
 eq:∀ i j,i<=m->j<=n->¬ (i=m/\j=n)->∃ x ∈ E i j,R i j=pr i x.1+R x.2.1 x.2.2
theorem rest_below {pr:Nat->Sk->Int} {m n:Nat} {E:Nat->Nat->List Way} {F R:Nat->Nat->Int} (hF:Least pr m n E F) (hR:Rest pr m n E R):∀ (k i j:Nat),i * (n+1)+j<=k->i<=m->j<=n->R 0 0<=F i j+R i j
 | k,i,j,hk,hi,hj=>by
  by_cases e:i=0/\j=0
  ·rw [e.1,e.2,hF.z];omega
  ·obtain ⟨a,b,x,⟨b1,b2,b3⟩,hx,e1,e2,e3⟩:=hF.eq i j hi hj e
   have hlt:a * (n+1)+b < i * (n+1)+j:=by
    rcases b3 with h | ⟨rfl,h⟩
    ·have:(a+1) * (n+1)<=i * (n+1):=Nat.mul_le_mul_right _ h
     rw [Nat.add_mul] at this
     omega
    ·omega
   match k,hk with
   | 0,hk=>omega
   | k+1,hk=>
    have ih:=rest_below hF hR k a b (by omega) b1 b2
    have h2:=hR.le a b b1 b2 x hx
    rw [e1,e2] at h2
    omega
theorem rest_above {pr:Nat->Sk->Int} {m n:Nat} {E:Nat->Nat->List Way} {F R:Nat->Nat->Int} (hE:Fwd m n E) (hF:Least pr m n E F) (hR:Rest pr m n E R):∀ (k i j:Nat),(m - i)+(n - j)<=k->i<=m->j<=n->F m n<=F i j+R i j
 | k,i,j,hk,hi,hj=>by
  by_cases e:i=m/\j=n
  ·rw [e.1,e.2,hR.z];omega
  ·obtain ⟨x,hx,e1⟩:=hR.eq i j hi hj e
   have hw:=hE i j hi hj x hx
   have h2:=hF.le i j hi hj x hx
   match k,hk with
   | 0,hk=>omega
   | k+1,hk=>
    have ih:=rest_above hE hF hR k x.2.1 x.2.2 (by omega) hw.1 hw.2.1
    omega
theorem rest_least {pr:Nat->Sk->Int} {m n:Nat} {E:Nat->Nat->List Way} {F R:Nat->Nat->Int} (hE:Fwd m n E) (hF:Least pr m n E F) (hR:Rest pr m n E R):F m n=R 0 0/\∀ i j,i<=m->j<=n->R 0 0<=F i j+R i j:=by
 have h1:=rest_above hE hF hR _ 0 0 (Nat.le_refl _) (Nat.zero_le _) (Nat.zero_le _)
 have h2:=rest_below hF hR _ m n (Nat.le_refl _) (Nat.le_refl _) (Nat.le_refl _)
 rw [hF.z] at h1
 rw [hR.z] at h2
 exact ⟨by omega,fun i j hi hj=>rest_below hF hR _ i j (Nat.le_refl _) hi hj⟩
theorem ways_fwd (es cs:List Str):Fwd es.length cs.length (ways es cs):=by
 intro i j hi hj x hx
 unfold ways at hx
 simp only [List.mem_append] at hx
 rcases hx with ((((h | h) | h) | h) | h) | h
 ·unfold w1 at h
  split at h
  ·rw [List.mem_singleton] at h;subst h;refine ⟨?_,?_,?_,?_,?_⟩ <;> simp only [] <;> omega
  ·simp at h
 ·unfold w2 at h
  split at h
  ·rw [List.mem_singleton] at h;subst h;refine ⟨?_,?_,?_,?_,?_⟩ <;> simp only [] <;> omega
  ·simp at h
 ·unfold w3 at h
  split at h
  ·rw [List.mem_singleton] at h;subst h;refine ⟨?_,?_,?_,?_,?_⟩ <;> simp only [] <;> omega
  ·simp at h
 ·unfold w4 at h
  split at h
  ·rw [List.mem_singleton] at h;subst h;refine ⟨?_,?_,?_,?_,?_⟩ <;> simp only [] <;> omega
  ·simp at h
 ·unfold w5 at h
  split at h
  ·rename_i hs
   rw [List.mem_singleton] at h;subst h
   unfold swapW at hs
   split at hs
   ·split at hs
    ·cases hs
    ·have hs:=of_decide_eq_true hs
     have hl:=congrArg List.length hs
     simp only [List.length_take,List.length_drop,List.length_cons,List.length_nil] at hl
     refine ⟨?_,?_,?_,?_,?_⟩ <;> simp only [] <;> omega
   ·cases hs
  ·simp at h
 ·unfold w6 at h
  obtain ⟨k,hk,rfl⟩:=List.mem_map.mp h
  have:=skips_in hk
  refine ⟨?_,?_,?_,?_,?_⟩ <;> simp only [] <;> omega
theorem ways_come (es cs:List Str):Come es.length cs.length (ways es cs):=by
 intro i j hi hj hn
 by_cases h0:j=0
 ·obtain ⟨i',rfl⟩:∃ i',i=i'+1:=⟨i - 1,by omega⟩
  refine ⟨i',j,(.lose,i'+1,j),⟨by omega,hj,by omega⟩,?_,rfl,rfl⟩
  unfold ways
  simp only [List.mem_append]
  refine .inl (.inl (.inl (.inl (.inr ?_))))
  unfold w2
  rw [if_pos (by omega)]
  exact List.mem_singleton.mpr rfl
 ·obtain ⟨j',rfl⟩:∃ j',j=j'+1:=⟨j - 1,by omega⟩
  refine ⟨i,j',(.add (gt cs j'),i,j'+1),⟨hi,by omega,by omega⟩,?_,rfl,rfl⟩
  unfold ways
  simp only [List.mem_append]
  refine .inl (.inl (.inl (.inr ?_)))
  unfold w3
  rw [if_pos (by omega)]
  exact List.mem_singleton.mpr rfl
theorem ways_some (es cs:List Str) {i j:Nat} (hi:i<=es.length) (hj:j<=cs.length) (hn:¬ (i=es.length/\j=cs.length)):ways es cs i j ≠ []:=by
 intro z
 by_cases h:i < es.length
 ·have:(Sk.lose,i+1,j) ∈ ways es cs i j:=by
   unfold ways
   simp only [List.mem_append]
   refine .inl (.inl (.inl (.inl (.inr ?_))))
   unfold w2
   rw [if_pos h]
   exact List.mem_singleton.mpr rfl
  rw [z] at this;simp at this
 ·have:(Sk.add (gt cs j),i,j+1) ∈ ways es cs i j:=by
   unfold ways
   simp only [List.mem_append]
   refine .inl (.inl (.inl (.inr ?_)))
   unfold w3
   rw [if_pos (by omega)]
   exact List.mem_singleton.mpr rfl
  rw [z] at this;simp at this
theorem ways_none (es cs:List Str):ways es cs es.length cs.length=[]:=by
 cases h:ways es cs es.length cs.length with
 | nil=>rfl
 | cons x r=>
  have:=ways_fwd es cs _ _ (Nat.le_refl _) (Nat.le_refl _) x (by rw [h];simp)
  omega
theorem TabI.step {pr:Nat->Sk->Int} {m n i j:Nat} {E:Nat->Nat->List Way} (hE:Fwd m n E) (hi:i<=m) (hj:j<=n) {done:List Way} {T:Tb} {t:Int} {x:Way} (hx:x ∈ E i j) (ht:T i j=some t) (h:TabI pr (Gone m n E i j done) T) :
  TabI pr (Gone m n E i j (done++[x])) (T.rel pr i j x)/\T.rel pr i j x i j=some t:=by
 have hx':=hE i j hi hj x hx
 refine ⟨?_,by rw [Tb.rel_ne pr T (by omega)];exact ht⟩
 refine (h.more (i:=i) (j:=j) ht (by omega) (by omega) ?_).congr ?_
 ·rintro a b y (⟨⟨_,_,q⟩,_⟩ | ⟨rfl,rfl,_⟩) <;> omega
 ·intro a b y
  unfold Gone
  simp only [List.mem_append,List.mem_singleton]
  constructor
  ·rintro ((k | ⟨e1,e2,e3⟩) | ⟨e1,e2,e3⟩)
   ·exact .inl k
   ·exact .inr ⟨e1,e2,.inl e3⟩
   ·exact .inr ⟨e1,e2,.inr e3⟩
  ·rintro (k | ⟨e1,e2,e3 | e3⟩)
   ·exact .inl (.inl k)
   ·exact .inl (.inr ⟨e1,e2,e3⟩)
   ·exact .inr ⟨e1,e2,e3⟩
theorem TabI.start {pr:Nat->Sk->Int} {m n:Nat} {E:Nat->Nat->List Way}:TabI pr (Gone m n E 0 0 []) (Tb.put (fun _ _=>none) 0 0 0):=by
 refine ⟨Tb.put_same ..,fun a b x k=>absurd k Gone.zero,fun a b u hu hn=>?_⟩
 rw [Tb.put_ne _ _ hn] at hu
 cases hu
theorem ways_turn {es cs:List Str} {i j:Nat} {x:Way} (h:x ∈ ways es cs i j) {z:Str} (e:x.1=.turn z):i < es.length:=by
 unfold ways at h
 simp only [List.mem_append] at h
 rcases h with ((((h | h) | h) | h) | h) | h
 ·unfold w1 at h
  split at h
  ·omega
  ·simp at h
 ·unfold w2 at h
  split at h
  ·omega
  ·simp at h
 ·unfold w3 at h
  split at h
  ·rw [List.mem_singleton] at h;subst h;cases e
  ·simp at h
 ·unfold w4 at h
  split at h
  ·rw [List.mem_singleton] at h;subst h;cases e
  ·simp at h
 ·unfold w5 at h
  split at h
  ·rw [List.mem_singleton] at h;subst h;cases e
  ·simp at h
 ·unfold w6 at h
  obtain ⟨k,hk,rfl⟩:=List.mem_map.mp h
  cases e
def RestAt (pr:Nat->Sk->Int) (E:Nat->Nat->List Way) (T:Tb) (a b:Nat):Prop:=∃ v,T a b=some v/\(E a b=[]->v=0)/\(∀ x ∈ E a b,∃ u,T x.2.1 x.2.2=some u/\v<=pr a x.1+u)/\(E a b ≠ []->∃ x ∈ E a b,∃ u,T x.2.1 x.2.2=some u/\v=pr a x.1+u)
def RestI (pr:Nat->Sk->Int) (m n:Nat) (E:Nat->Nat->List Way) (i j:Nat) (T:Tb):Prop:=∀ a b,a<=m->b<=n->(i < a\/(a=i/\j < b))->RestAt pr E T a b
def leastOf:List Int->Int
 | []=>0
 | x :: r=>r.foldl min x
theorem foldl_min_le:∀ (r:List Int) (x:Int),r.foldl min x<=x/\∀ y ∈ r,r.foldl min x<=y
 | [],x=>⟨Int.le_refl _,fun _ z=>nomatch z⟩
 | y :: r,x=>by
  have ih:=foldl_min_le r (min x y)
  rw [List.foldl_cons]
  refine ⟨by have:=ih.1;omega,fun z hz=>?_⟩
  rcases List.mem_cons.mp hz with rfl | hz
  ·have:=ih.1;omega
  ·exact ih.2 z hz
theorem foldl_min_mem:∀ (r:List Int) (x:Int),r.foldl min x=x\/r.foldl min x ∈ r
 | [],x=>.inl rfl
 | y :: r,x=>by
  rw [List.foldl_cons]
  rcases foldl_min_mem r (min x y) with h | h
  ·rcases Int.le_total x y with c | c
   ·rw [Int.min_eq_left c] at h ⊢;exact .inl h
   ·rw [Int.min_eq_right c] at h ⊢;exact .inr (by rw [h];exact List.mem_cons_self)
  ·exact .inr (List.mem_cons_of_mem _ h)
theorem leastOf_le {l:List Int} {y:Int} (h:y ∈ l):leastOf l<=y:=by
 cases l with
 | nil=>cases h
 | cons x r=>
  show r.foldl min x<=y
  rcases List.mem_cons.mp h with rfl | h
  ·exact (foldl_min_le r _).1
  ·exact (foldl_min_le r x).2 y h
theorem leastOf_mem {l:List Int} (h:l ≠ []):leastOf l ∈ l:=by
 cases l with
 | nil=>exact absurd rfl h
 | cons x r=>
  show r.foldl min x ∈ x :: r
  rcases foldl_min_mem r x with e | e
  ·rw [e];exact List.mem_cons_self
  ·exact List.mem_cons_of_mem _ e
theorem RestI.ends {pr:Nat->Sk->Int} {m n i j:Nat} {E:Nat->Nat->List Way} {T:Tb} (hE:Fwd m n E) (h:RestI pr m n E i j T) (hi:i<=m) (hj:j<=n) {x:Way} (hx:x ∈ E i j):∃ u,T x.2.1 x.2.2=some u:=by
 have w:=hE i j hi hj x hx
 obtain ⟨v,hv,_⟩:=h x.2.1 x.2.2 w.1 w.2.1 (by omega)
 exact ⟨v,hv⟩
theorem RestI.put {pr:Nat->Sk->Int} {m n i j:Nat} {E:Nat->Nat->List Way} {T:Tb} (hE:Fwd m n E) (h:RestI pr m n E i j T) (hi:i<=m) (hj:j<=n) :
  ∀ a b,a<=m->b<=n->(i < a\/(a=i/\j<=b))->RestAt pr E (T.put i j (leastOf ((E i j).map fun x=>pr i x.1+(T x.2.1 x.2.2).getD 0))) a b:=by
 intro a b ha hb hab
 have off:∀ x ∈ E a b,¬ (x.2.1=i/\x.2.2=j):=fun x hx=>by
  have:=hE a b ha hb x hx
  omega
 by_cases e:a=i/\b=j
 ·obtain ⟨rfl,rfl⟩:=e
  refine ⟨_,Tb.put_same ..,fun z=>?_,fun x hx=>?_,fun z=>?_⟩
  ·rw [z];rfl
  ·obtain ⟨u,hu⟩:=h.ends hE ha hb hx
   refine ⟨u,by rw [Tb.put_ne _ _ (off x hx)];exact hu,?_⟩
   refine leastOf_le (List.mem_map.mpr ⟨x,hx,?_⟩)
   rw [hu];rfl
  ·obtain ⟨x,hx,ex⟩:=List.mem_map.mp (leastOf_mem (l:=(E a b).map fun x=>pr a x.1+(T x.2.1 x.2.2).getD 0) (fun c=>z (List.map_eq_nil_iff.mp c)))
   obtain ⟨u,hu⟩:=h.ends hE ha hb hx
   refine ⟨x,hx,u,by rw [Tb.put_ne _ _ (off x hx)];exact hu,?_⟩
   rw [<-ex,hu];rfl
 ·obtain ⟨v,h1,h2,h3,h4⟩:=h a b ha hb (by omega)
  refine ⟨v,by rw [Tb.put_ne _ _ e];exact h1,h2,fun x hx=>?_,fun z=>?_⟩
  ·obtain ⟨u,hu,hl⟩:=h3 x hx
   exact ⟨u,by rw [Tb.put_ne _ _ (off x hx)];exact hu,hl⟩
  ·obtain ⟨x,hx,u,hu,he⟩:=h4 z
   exact ⟨x,hx,u,by rw [Tb.put_ne _ _ (off x hx)];exact hu,he⟩
theorem rest_of {pr:Nat->Sk->Int} {m n:Nat} {E:Nat->Nat->List Way} {T:Tb} (h:∀ a b,a<=m->b<=n->RestAt pr E T a b) (hN:E m n=[]) (hS:∀ i j,i<=m->j<=n->¬ (i=m/\j=n)->E i j ≠ []) :
  (∀ i j,i<=m->j<=n->∃ v,T i j=some v)/\Rest pr m n E (fun i j=>(T i j).getD 0):=by
 refine ⟨fun i j hi hj=>by obtain ⟨v,hv,_⟩:=h i j hi hj;exact ⟨v,hv⟩,?_,?_,?_⟩
 ·obtain ⟨v,h1,h2,_⟩:=h m n (Nat.le_refl _) (Nat.le_refl _)
  show (T m n).getD 0=0
  rw [h1,h2 hN];rfl
 ·intro i j hi hj x hx
  obtain ⟨v,h1,_,h3,_⟩:=h i j hi hj
  obtain ⟨u,hu,hl⟩:=h3 x hx
  show (T i j).getD 0<=_+(T x.2.1 x.2.2).getD 0
  rw [h1,hu];exact hl
 ·intro i j hi hj hn
  obtain ⟨v,h1,_,_,h4⟩:=h i j hi hj
  obtain ⟨x,hx,u,hu,he⟩:=h4 (hS i j hi hj hn)
  refine ⟨x,hx,?_⟩
  show (T i j).getD 0=_+(T x.2.1 x.2.2).getD 0
  rw [h1,hu];exact he
end Vm
namespace L3
open PySem PySem.Spec PyProof.Rows L2
theorem rep_fold (u:Value):∀ (k:Nat) (acc:Array Value),List.foldl (fun x1 x2=>x1++x2) acc (List.replicate k #[u])=acc++(List.replicate k u).toArray
 | 0,acc=>by simp
 | k+1,acc=>by
  rw [List.replicate_succ,List.foldl_cons,rep_fold u k,List.replicate_succ]
  apply Array.ext'
  simp
section
variable {pg:Program} {wo:World} {Ar:Around} {Ex:Value->Shared->Prop} {st:Shared}
theorem mulL_new {a:Addr} {its:Array Value} {c:Nat} {n:Int} {tk:Tok} {R:Value->Shared->Prop} (ha:st.heap.get? a=some { cls:=.type "list",data:=.seq its c })
  (h1:0<=n) (h2:n < 2 ^ 40) (h3:its.size * n.toNat<=2 ^ 24)
  (hR:R (.ref st.heap.objs.size) { st with heap:=st.heap.push { cls:=.type "list",data:=.seq (List.foldl (·++·) #[] (List.replicate (if its.isEmpty=true then 0 else n.toNat) its)) } }) :
  wpAny (model pg wo) Ar (binaryOp .Mult (.ref a) (.int n tk)) R Ex st:=by
 have fits:¬ (!Builtin.List.listFitsIndex n)=true:=by
  unfold Builtin.List.listFitsIndex
  simp
  omega
 have short:¬ Builtin.List.listTooLong (its.size * n.toNat)=true:=by
  unfold Builtin.List.listTooLong sizeLine
  simp
  omega
 have isL:st.TypeIs (.ref a) "list" := ⟨_,ha,rfl⟩
 refine wpAny_binaryOp_repeat_ref (by decide:(Value.type "list" == Value.type "int")=false) isL (fun s'=>typeIs_int s' n tk) noFill_list_mul F.fills_int_mul F.slot_int_rmul repeat_list F.slot_int_index.lookup ?_
 refine call_meets F.slot_int_rmul (typeIs_int st n tk) F.entry_int_rmul (F.args_int_rmul_2 _ _) (int___rmul___int_list n tk a its c) ?_
 refine ⟨ha,rfl,isL,?_⟩
 exact call_meets F.slot_list_mul isL F.entry_list_mul (F.args_list_mul_2 _ _) (AutoListH.list___mul___list_int_3 a its c n tk fits (by omega) short) ⟨ha,hR⟩
end
section
variable {X:Cx}
theorem vals_rep {v:V} {u:Value} (r:RelV v u):∀ k:Nat,Vals (List.replicate k v) (List.replicate k u)
 | 0=>.nil
 | k+1=>.cons r (vals_rep r k)
theorem op_mulL:OpR X (binaryOp .Mult) (fun x y H Q=>∃ (a:Addr) (v:V) (n:Nat),x=.ref a/\y=.int ((n:Nat):Int)/\H a=some (.lst [v])/\n<=100000/\∀ p,H p=none->Q (.ref p) (upd H p (.lst (List.replicate n v)))):=by
 intro pins s σ H x y w u Q I rx ry h
 obtain ⟨a,v,n,rfl,rfl,hH,hn,q⟩:=h
 obtain rfl:w=Value.ref a:=rx
 obtain ⟨t,rfl⟩:=ry
 obtain ⟨its,k,r,e,z⟩:=I.lst hH
 obtain ⟨u,rfl,ru⟩:=vals1 r
 have hf:H s.heap.objs.size=none:=I.hok.fresh (Nat.le_refl _)
 have hx:((n:Nat):Int).toNat=n:=Int.toNat_natCast n
 have hE:(if (#[u]:Array Value).isEmpty=true then 0 else ((n:Nat):Int).toNat)=n:=by rw [if_neg (by simp),hx]
 refine mulL_new (its:=#[u]) e (by omega) (by omega) (by rw [hx];show 1 * n<=2 ^ 24;omega) ?_
 rw [hE,rep_fold]
 refine ⟨.ref s.heap.objs.size,upd H s.heap.objs.size (.lst (List.replicate n v)),I.laid (t':=s.toks) (fun b u e=>Heap.get?_push_of_some _ e) (Nat.le_refl _) ?_,rfl,q _ hf⟩
 refine ⟨by rw [List.length_replicate];show n<=sizeLine;unfold sizeLine;omega,List.replicate n u,0,vals_rep ru n,?_⟩
 have:(#[]++(List.replicate n u).toArray:Array Value)=(List.replicate n u).toArray:=by simp
 rw [this]
 exact Heap.get?_push_size _ rfl
end
end L3
namespace Vm
open PySem PySem.Spec PyProof.Rows L2 L3
def ov:Option Int->V
 | none=>.non
 | some v=>.int v
def rowV (n:Nat) (f:Nat->Option Int):List V:=(List.range (n+1)).map fun j=>ov (f j)
theorem rowV_len (n:Nat) (f:Nat->Option Int):(rowV n f).length=n+1:=by unfold rowV;rw [List.length_map,List.length_range]
theorem rowV_at {n j:Nat} (f:Nat->Option Int) (h:j<=n):(rowV n f)[j]?=some (ov (f j)):=by
 unfold rowV
 rw [List.getElem?_map,List.getElem?_range (by omega)]
 rfl
theorem rowV_set {n j:Nat} (f:Nat->Option Int) (v:Int) (h:j<=n):(rowV n f).set j (.int v)=rowV n (fun b=>if b=j then some v else f b):=by
 apply List.ext_getElem?
 intro k
 by_cases hk:k<=n
 ·rw [rowV_at _ hk]
  by_cases e:k=j
  ·subst e
   rw [List.getElem?_set_self (by rw [rowV_len];omega)]
   show some (V.int v)=some (ov (if k=k then some v else f k))
   rw [if_pos rfl];rfl
  ·rw [List.getElem?_set_ne (fun z=>e z.symm),rowV_at _ hk]
   show _=some (ov (if k=j then some v else f k))
   rw [if_neg e]
 ·rw [List.getElem?_eq_none (by rw [List.length_set,rowV_len];omega),List.getElem?_eq_none (by rw [rowV_len];omega)]
structure TabAt (H:Hp) (l:Addr) (rs:List Addr) (m n:Nat) (T:Tb):Prop where
 top:H l=some (.lst (rs.map V.ref))
 len:rs.length=m+1
 row:∀ i r,rs[i]?=some r->H r=some (.lst (rowV n (T i)))
 nd:rs.Nodup
 ne:l ∉ rs
theorem TabAt.mono {H H':Hp} {l:Addr} {rs:List Addr} {m n:Nat} {T:Tb} (h:TabAt H l rs m n T) (S:Same H H'):TabAt H' l rs m n T:=⟨S _ _ h.top,h.len,fun i r e=>S _ _ (h.row i r e),h.nd,h.ne⟩
theorem TabAt.line {H:Hp} {l:Addr} {rs:List Addr} {m n:Nat} {T:Tb} (h:TabAt H l rs m n T) {i:Nat} (hi:i<=m):∃ r,rs[i]?=some r/\atI (rs.map V.ref) ((i:Nat):Int)=some (.ref r)/\H r=some (.lst (rowV n (T i))):=by
 have hl:i < rs.length:=by rw [h.len];omega
 refine ⟨rs[i],List.getElem?_eq_getElem hl,atI_nat ?_,h.row i _ (List.getElem?_eq_getElem hl)⟩
 rw [List.getElem?_map,List.getElem?_eq_getElem hl];rfl
theorem rowV_atI {n j:Nat} (f:Nat->Option Int) (h:j<=n):atI (rowV n f) ((j:Nat):Int)=some (ov (f j)):=atI_nat (rowV_at f h)
theorem ixN_nat {n j:Nat} (h:j < n):ixN n ((j:Nat):Int)=some j:=by
 unfold ixN
 have h1:¬ ((j:Int) < 0):=by omega
 simp [h1,h]
theorem nd_inj {α:Type} {l:List α} (h:l.Nodup) {i j:Nat} (hi:i < l.length) (hj:j < l.length) (e:l[i]?=l[j]?):i=j:=by
 have key:∀ (a b:Nat) (ha:a < l.length) (hb:b < l.length),a < b->l[a]? ≠ l[b]?:=by
  intro a b ha hb hab z
  have:=(List.pairwise_iff_getElem.mp h) a b ha hb hab
  rw [List.getElem?_eq_getElem ha,List.getElem?_eq_getElem hb] at z
  exact this (Option.some.inj z)
 rcases Nat.lt_trichotomy i j with c | c | c
 ·exact absurd e (key i j hi hj c)
 ·exact c
 ·exact absurd e.symm (key j i hj hi c)
theorem TabAt.put {H:Hp} {l r:Addr} {rs:List Addr} {m n i j:Nat} {T:Tb} (v:Int) (h:TabAt H l rs m n T) (hr:rs[i]?=some r) (hj:j<=n):TabAt (upd H r (.lst ((rowV n (T i)).set j (.int v)))) l rs m n (T.put i j v):=by
 have hm:r ∈ rs:=List.mem_of_getElem? hr
 have hil:i < rs.length:=(List.getElem?_eq_some_iff.mp hr).1
 refine ⟨?_,h.len,?_,h.nd,h.ne⟩
 ·rw [upd_ne (fun e=>h.ne (by rw [e];exact hm))];exact h.top
 ·intro k r' hk
  by_cases e:k=i
  ·subst e
   rw [hr] at hk
   injection hk with hk
   subst hk
   rw [upd_same,rowV_set _ _ hj]
   congr 2
   unfold rowV
   apply List.map_congr_left
   intro b _
   congr 1
   show (if b=j then some v else T k b)=if k=k/\b=j then some v else T k b
   by_cases eb:b=j
   ·rw [if_pos eb,if_pos ⟨rfl,eb⟩]
   ·rw [if_neg eb,if_neg (fun z=>eb z.2)]
  ·have hne:r' ≠ r:=fun z=>e (by
    have hkl:k < rs.length:=(List.getElem?_eq_some_iff.mp hk).1
    exact nd_inj h.nd hkl hil (by rw [hk,hr,z]))
   rw [upd_ne hne,h.row k r' hk]
   congr 2
   unfold rowV
   apply List.map_congr_left
   intro b _
   congr 1
   rw [Tb.put_ne _ _ (fun z=>e z.1)]
end Vm
namespace L2
open PySem PySem.Spec PyProof.Rows
section
variable {κ:Type} [DecidableEq κ]
end
section
variable {P:Program} {w:World} {H:Hp} {h:Heap} {a:Addr}
end
section
variable {X:Cx} {pins:List (Addr × Obj)} {σ:St} {H:Hp} {s:Shared} {a:Addr} {y v:V} {u r:Value} {o:Option V} {A:Around} {E:Value->Shared->Prop}
end
end L2
namespace Vm
open PySem PySem.Spec PyProof.Rows L2 L3
theorem best_le (val:Nat->Int):∀ k j,j<=k->val (argBest (fun a b=>decide (val a < val b)) k)<=val j
 | 0,j,h=>by rw [show j=0 by omega];exact Int.le_refl _
 | k+1,j,h=>by
  have ih:=best_le val k
  show val (if decide (val (k+1) < val (argBest (fun a b=>decide (val a < val b)) k))=true then k+1 else argBest (fun a b=>decide (val a < val b)) k)<=val j
  by_cases hb:val (k+1) < val (argBest (fun a b=>decide (val a < val b)) k)
  ·rw [if_pos (decide_eq_true hb)]
   by_cases e:j=k+1
   ·rw [e];exact Int.le_refl _
   ·have:=ih j (by omega);omega
  ·rw [if_neg (by rw [decide_eq_false hb];exact Bool.false_ne_true)]
   by_cases e:j=k+1
   ·rw [e];omega
   ·exact ih j (by omega)
theorem best_in (bt:Nat->Nat->Bool):∀ k,argBest bt k<=k
 | 0=>Nat.le_refl _
 | k+1=>by
  have ih:=best_in bt k
  show (if bt (k+1) (argBest bt k)=true then k+1 else argBest bt k)<=k+1
  by_cases h:bt (k+1) (argBest bt k)=true
  ·rw [if_pos h];exact Nat.le_refl _
  ·rw [if_neg h];omega
theorem minD_turn {pr:Program} {wd:World} {A:Around} {R:Result->Shared->Prop} {I:Addr} {fp wr:List Addr} {n:Nat} {Pp:Nat->Value->Prop} {Sp':Nat->Heap->Prop} (d:Value) (T:Walks pr wd A.in1 I fp wr n Pp Sp') (bt:Nat->Nat->Bool) (hb:CmpOf pr wd A.in1 .Lt Pp bt) (B:Addr) (hB:B ∉ fp) :
  ∀ (k j:Nat) (s:Shared) (u:Value) (c:Nat),n - (j+1)=k->j+1<=n->Sp' (j+1) s.heap->Pp (argBest bt j) u->s.heap.get? B=some ⟨.type "list",none,.seq #[u,u] c,#[]⟩ →
   (∀ v h2 tk,Pp (argBest bt (n - 1)) v->(∀ b o,b ∉ wr->b ≠ B->s.heap.get? b=some o->h2.get? b=some o)->R (.ok (.ret v)) { s with heap:=h2,toks:=tk }) →
   codeAny (model pr wd) A (.builtin "min.loop" ⟨[.ref I,.none,.ref B],[(Str.ofString "default",d)]⟩) R s:=by
 have hw:B ∉ wr:=fun h=>hB (T.sub _ h)
 have nm:(toString "min"++toString ".loop" : String) = "min.loop" := by decide
 intro k
 induction k with
 | zero=>
  intro j s u c hk hj hst hu hS hR
  have e1:j+1=n:=by omega
  refine codeAny_builtin PySem.F.entry_min_loop ?_;rw [Around.under_plainId PySem.F.plain_min_loop _]
  show wpAny _ A.in1 (seqItems? (.ref B) >>= _) _ _ s;refine wpAny_bind (wpAny_seqItems hS rfl ?_)
  show wpAny _ A.in1 (tryCatch (pyNext (.ref I)) _ >>= _) _ _ s;refine wpAny_bind (wpAny_tryCatch (T.done s _ _ (e1 ▸ hst) fun h2 tk hk2=>?_))
  have hS2:=hk2 B _ hw hS
  show wpAny _ A.in1 (updateSeq B (fun _=>#[]) >>= _) _ _ _;refine wpAny_bind (wpAny_updateSeq hS2 rfl (wpAny_bind (wpAny_letGo (wpAny_pure ?_))))
  exact hR u _ tk (by rw [<-e1];exact hu) fun b o bw bS e=>(Heap.get?_update_other _ _ (Ne.symm bS)).trans (hk2 b o bw e)
 | succ k ih=>
  intro j s u c hk hj hst hu hS hR
  have lt:j+1 < n:=by omega
  refine codeAny_builtin PySem.F.entry_min_loop ?_;rw [Around.under_plainId PySem.F.plain_min_loop _]
  show wpAny _ A.in1 (seqItems? (.ref B) >>= _) _ _ s;refine wpAny_bind (wpAny_seqItems hS rfl ?_)
  show wpAny _ A.in1 (tryCatch (pyNext (.ref I)) _ >>= _) _ _ s;refine wpAny_bind (wpAny_tryCatch (T.item (j+1) s _ _ lt hst fun v h2 tk hv hst2 hk2=>?_))
  have hS2:=hk2 B _ hw hS
  show wpAny _ A.in1 (tryCatch (holding [v,v] (richCompare .Lt v u >>= _)) _ >>= _) _ _ _;refine wpAny_bind (wpAny_tryCatch (wpAny_holding (wpAny_bind (hb (j+1) (argBest bt j) v u _ _ _ hv hu ?_))))
  refine wpAny_bind (wpAny_holding (wpAny_truthy_bool (wpAny_bind (wpAny_letGo (wpAny_pure ?_)))))
  cases hbt:bt (j+1) (argBest bt j) with
  | true=>
   simp only [if_true];refine wpAny_bind (wpAny_updateSeq hS2 rfl (wpAny_bind (wpAny_letGo ?_)));rw [nm]
   refine wpAny_pure ⟨plainId_quiet PySem.F.plain_min_loop _,ih (j+1) _ v _ (by omega) lt (T.frame _ _ _ hst2 fun b bf o e=>?_) (by simp only [argBest,hbt,if_true];exact hv) (Heap.get?_update_self _ hS2 rfl) fun v3 h3 tk3 hv3 hk3=>?_⟩
   ·exact (Heap.get?_update_other _ _ (fun h:B=b=>hB (by rw [h];exact bf))).trans e
   ·exact hR v3 h3 tk3 hv3 fun b o bw bS e=>hk3 b o bw bS ((Heap.get?_update_other _ _ (Ne.symm bS)).trans (hk2 b o bw e))
  | false=>
   simp only [Bool.false_eq_true,if_false];refine wpAny_bind (wpAny_letGo ?_);rw [nm]
   refine wpAny_pure ⟨plainId_quiet PySem.F.plain_min_loop _,ih (j+1) _ u c (by omega) lt hst2 (by simp only [argBest,hbt,Bool.false_eq_true,if_false];exact hu) hS2 fun v3 h3 tk3 hv3 hk3=>?_⟩
   exact hR v3 h3 tk3 hv3 fun b o bw bS e=>hk3 b o bw bS (hk2 b o bw e)
theorem minD_first {pr:Program} {wd:World} {A:Around} {R:Result->Shared->Prop} {I:Addr} {fp wr:List Addr} {n:Nat} {Pp:Nat->Value->Prop} {Sp':Nat->Heap->Prop} (d:Value) (T:Walks pr wd A.in1 I fp wr n Pp Sp') (bt:Nat->Nat->Bool) (hb:CmpOf pr wd A.in1 .Lt Pp bt) (B:Addr) (hB:B ∉ fp) {s:Shared} {c:Nat} (hst:Sp' 0 s.heap)
  (hS:s.heap.get? B=some ⟨.type "list",none,.seq #[] c,#[]⟩)
  (h0:n=0->∀ h2 tk,(∀ b o,b ∉ wr->b ≠ B->s.heap.get? b=some o->h2.get? b=some o)->R (.ok (.ret d)) { s with heap:=h2,toks:=tk })
  (hR:0 < n->∀ v h2 tk,Pp (argBest bt (n - 1)) v->(∀ b o,b ∉ wr->b ≠ B->s.heap.get? b=some o->h2.get? b=some o)->R (.ok (.ret v)) { s with heap:=h2,toks:=tk }) :
  codeAny (model pr wd) A (.builtin "min.loop" ⟨[.ref I,.none,.ref B],[(Str.ofString "default",d)]⟩) R s:=by
 have hw:B ∉ wr:=fun h=>hB (T.sub _ h)
 have nm:(toString "min"++toString ".loop" : String) = "min.loop" := by decide
 refine codeAny_builtin PySem.F.entry_min_loop ?_;rw [Around.under_plainId PySem.F.plain_min_loop _]
 show wpAny _ A.in1 (seqItems? (.ref B) >>= _) _ _ s;refine wpAny_bind (wpAny_seqItems hS rfl ?_)
 show wpAny _ A.in1 (tryCatch (pyNext (.ref I)) _ >>= _) _ _ s
 by_cases hn:n=0
 ·refine wpAny_bind (wpAny_tryCatch (T.done s _ _ (hn ▸ hst) fun h2 tk hk2=>?_))
  show wpAny _ A.in1 (rule _ >>= _) _ _ _
  refine wpAny_bind (wpAny_rule (wpAny_pure ?_))
  exact h0 hn h2 tk fun b o bw _ e=>hk2 b o bw e
 ·have hn:0 < n:=by omega
  refine wpAny_bind (wpAny_tryCatch (T.item 0 s _ _ hn hst fun v h2 tk hv hst2 hk2=>?_))
  have hS2:=hk2 B _ hw hS
  show wpAny _ A.in1 (updateSeq B (fun _=>#[v,v]) >>= _) _ _ _;refine wpAny_bind (wpAny_updateSeq hS2 rfl ?_);rw [nm]
  refine wpAny_pure ⟨plainId_quiet PySem.F.plain_min_loop _,minD_turn d T bt hb B hB _ 0 _ v _ rfl hn (T.frame _ _ _ hst2 fun b bf o e=>?_) hv (Heap.get?_update_self _ hS2 rfl) fun v3 h3 tk3 hv3 hk3=>?_⟩
  ·exact (Heap.get?_update_other _ _ (fun h:B=b=>hB (by rw [h];exact bf))).trans e
  ·exact hR hn v3 h3 tk3 hv3 fun b o bw bS e=>hk3 b o bw bS ((Heap.get?_update_other _ _ (Ne.symm bS)).trans (hk2 b o bw e))
theorem args_minD (a v:Value):argsOk "min" ⟨[a],[(Str.ofString "default",v)]⟩:=by unfold argsOk;kernel_rfl
theorem minD_call {pr:Program} {wd:World} {A:Around} {E:Value->Shared->Prop} {s:Shared} {x d:Value} {Q:Value->Shared->Prop}
  (h:wpAny (model pr wd) A.in1 (pyIter x) (fun it s2=>∃ I fp wr n Pp Sp' bt,it=.ref I/\Walks pr wd A.in1 I fp wr n Pp Sp'/\Sp' 0 s2.heap/\(∀ b ∈ fp,b < s2.heap.objs.size)/\CmpOf pr wd A.in1 .Lt Pp bt ∧
   (n=0->∀ h2 tk,(∀ b o,b ∉ wr->s2.heap.get? b=some o->h2.get? b=some o)->Q d { s2 with heap:=h2,toks:=tk }) ∧
   (0 < n->∀ v h2 tk,Pp (argBest bt (n - 1)) v->(∀ b o,b ∉ wr->s2.heap.get? b=some o->h2.get? b=some o)->Q v { s2 with heap:=h2,toks:=tk })) E s) :
  wpAny (model pr wd) A (call (.builtin "min") [x] [(Str.ofString "default",d)]) Q E s:=by
 have nm:(toString "min"++toString ".loop" : String) = "min.loop" := by decide
 refine kmb_tree PySem.F.kind_min PySem.F.plain_min PySem.F.entry_min (args_minD _ _) ?_
 show wpAny _ A.in1 (Builtin.Builtins.bindParams "min" ["key","default"] 0 ⟨[],[(Str.ofString "default",d)]⟩ >>= _) _ _ s
 refine wpAny_bind (wpAny_of_eq (show Builtin.Builtins.bindParams "min" ["key","default"] 0 ⟨[],[(Str.ofString "default",d)]⟩=pure [none,some d] from rfl) (wpAny_bind (wpAny_pure ?_)))
 refine wpAny_bind (wpAny_mono h (fun it s2 g=>?_) fun _ _ e=>e)
 obtain ⟨I,fp,wr,n,Pp,Sp',bt,rfl,T,hst,hfp,hb,g0,g1⟩:=g
 refine wpAny_bind (wpAny_newObj_type ?_);rw [nm]
 have nB:s2.heap.objs.size ∉ fp:=fun hm=>Nat.lt_irrefl _ (hfp _ hm)
 refine wpAny_pure ⟨plainId_quiet PySem.F.plain_min_loop _,minD_first d T bt hb s2.heap.objs.size nB (T.frame _ _ _ hst fun b _ o e=>Heap.get?_push_of_some _ e) (Heap.get?_push_size _ rfl) (fun hn h2 tk hk=>?_) fun hn v h2 tk hv hk=>?_⟩
 ·exact g0 hn h2 tk fun b o bw e=>hk b o bw (Nat.ne_of_lt (Heap.lt_size e)) (Heap.get?_push_of_some _ e)
 ·exact g1 hn v h2 tk hv fun b o bw e=>hk b o bw (Nat.ne_of_lt (Heap.lt_size e)) (Heap.get?_push_of_some _ e)
theorem comp_trip {α:Type} {K:PySem.W.Frag} {J:It} {H:Hp} {as:List α} {v:α->V} {x y z:α->V} (e:α->V) {te:TE} {Q:VK} {rest:L2.St} (S:Src J H (as.map v)) (hz:as.length<=sizeLine)
  (hp:∀ a ∈ as,∃ p,v a=.ref p/\SqT K H p [x a,y a,z a]) (he:∀ a ∈ as,∀ k:VK,k (e a) H->te (some (x a) :: some (y a) :: some (z a) :: rest) H k)
  (hq:∀ D,H D=none->Q (.ref D) (upd H D (.lst (as.map e)))):wComp J (gTup K 3 (gCons (gName 0) (gCons (gName 1) (gCons (gName 2) gNil)))) tYes te Q (none :: none :: none :: rest) H:=by
 refine ⟨fun i m σ acc H'=>H'=H/\i<=as.length/\m=as.length - i/\acc=(as.take i).map e/\∃ o1 o2 o3,σ=o1 :: o2 :: o3 :: rest,⟨as.length,rfl,Nat.zero_le _,rfl,by simp,none,none,none,rfl⟩,?_⟩
 rintro i m σ acc H' ⟨rfl,hi,rfl,rfl,o1,o2,o3,rfl⟩
 have hacc:((as.take i).map e).length<=i:=by
  rw [List.length_map,List.length_take];exact Nat.min_le_left _ _
 by_cases hlt:i < as.length
 ·refine .inr ⟨S.go i (by rw [List.length_map];exact hlt),fun w H1 yl=>?_⟩
  obtain ⟨rfl,hx⟩:=S.yld i w H1 (by rw [List.length_map];exact hlt) yl
  rw [List.getElem?_map,List.getElem?_eq_getElem hlt] at hx
  have hx':v as[i]=w:=Option.some.inj hx
  subst hx'
  have hm:as[i] ∈ as:=List.getElem_mem hlt
  obtain ⟨p,ep,hpp⟩:=hp _ hm
  have ts:as.take (i+1)=as.take i++[as[i]]:=List.take_succ_eq_append_getElem hlt
  refine ⟨p,_,ep,hpp,rfl,_,_,rfl,_,_,rfl,_,_,rfl,rfl,?_⟩
  show te (some (x as[i]) :: some (y as[i]) :: some (z as[i]) :: rest) H1 _
  refine he _ hm _ ⟨by omega,as.length - (i+1),by omega,rfl,hlt,rfl,?_,_,_,_,rfl⟩
  rw [ts,List.map_append]
  rfl
 ·have ei:i=as.length:=by omega
  subst ei
  refine .inl ⟨S.stop _ (by rw [List.length_map];exact Nat.le_refl _),by omega,fun D hD=>?_⟩
  rw [List.take_length]
  exact hq D hD
section
variable {X:Cx}
def rMinD (K:PySem.W.Frag):V->Hp->VK->Prop:=fun x H Q=>∃ (p:Addr) (ns:List Int),x=.ref p/\SqL K H p (ns.map V.int)/\(ns=[]->Q (.int 0) H)/\∀ m ∈ ns,(∀ n ∈ ns,m<=n)->Q (.int m) H
def tMinD (K:PySem.W.Frag) (te:TE):TE:=fun σ H Q=>te σ H fun x H1=>rMinD K x H1 Q
theorem op_catA:OpR X (binaryOp .Add) (fun x y H Q=>∃ (a b:Addr) (xs ys:List V),x=.ref a/\y=.ref b/\SqT X.K H a xs/\SqT X.K H b ys/\xs.length+ys.length<=sizeLine/\∀ (r:Addr) (H2:Hp),Same H H2->SqT X.K H2 r (xs++ys)->Q (.ref r) H2):=by
 intro pins s σ H x y v u Q I rx ry h
 obtain ⟨a,b,xs,ys,rfl,rfl,ha,hb,hz,q⟩:=h
 by_cases hx:xs=[]
 ·cases rx;cases ry
  obtain ⟨its,r1,p1,_⟩:=I.tuple ha
  obtain ⟨its2,r2,p2,_⟩:=I.tuple hb
  have hv:its=[]:=r1.nil_iff.mpr hx
  obtain ⟨⟨c1,dd1,data1,sl1⟩,o1,hc1,n1,hd1⟩:=id p1
  obtain ⟨⟨c2,dd2,data2,sl2⟩,o2,hc2,n2,hd2⟩:=id p2
  simp only at hc1 hd1 hc2 hd2
  subst hc1 hd1 hc2 hd2
  exact concat_meets ⟨_,o1,rfl⟩ ⟨_,o2,rfl⟩ noFill_tuple_add seq_tuple_add PySem.F.slot_tuple_add PySem.F.entry_tuple_add (PySem.F.args_tuple_add_2 _ _) (tuple_addW0 a b its.toArray its2.toArray n1 n2 dd1 dd2 sl1 sl2 (by simp [hv])) ⟨o1,o2,⟨.ref b,H,I,rfl,q b H (Same.refl H) (by rw [hx];exact hb)⟩⟩
 ·exact op_catT pins s σ H _ _ v u Q I rx ry ⟨a,b,xs,ys,rfl,rfl,ha,hb,hx,hz,fun e=>q a H (Same.refl H) (by rw [e,List.append_nil];exact ha),fun _ p hp=>q p _ (same_upd hp) (SqT.of upd_same)⟩
theorem pe_minD {e:Expr} {te:TE} {p pos cp kp:Pos} {cj:Nat} (hc:X.calm=true) (hg:Gl X "min") (hm:X.mg "min" = none) (he:PE X e te) (hs:starEach [e] X.env=[(false,eval e X.env)]:=by rfl) :
  PE X (.Call (.Name "min" p) [e] [⟨some "default",.Constant (.int 0) cj cp,kp⟩] pos) (tMinD X.K te):=by
 intro pins s σ H Q I h
 refine wpAny_Call_Name_kw (ld_blt I hg hm boot_min ?_ (by decide) (by decide))
 have hpa:PA X [e] (tCons te tNil):=pa_cons he pa_nil hs
 refine callWith_kw (thn (hpa pos pins s σ H (fun xs H1=>match xs with | [x]=>rMinD X.K x H1 Q | _=>False) I h) fun us s1 ⟨vs,H1,I1,r1,q1⟩=>?_) (by rw [hs];rfl) (by rw [hs];rfl) rfl rfl
 match vs,r1,q1 with
 | [x],r1,q1=>
  obtain ⟨u,rfl,ru⟩:=r1.one
  refine kws_cons (thn (pe_int pins s1 σ H1 (fun y H2=>y=V.int 0/\rMinD X.K x H2 Q) I1 ⟨rfl,q1⟩) fun d s2 ⟨y,H2,I2,ry,ey,p,ns,ex,hq,q0,qm⟩=>kws_nil ?_)
  subst ey ex
  obtain ⟨td,rfl⟩:=ry
  cases ru
  show wpAny _ _ (call (.builtin "min") [.ref p] [(Str.ofString "default",Value.int 0 td)]) _ _ _
  obtain ⟨its,rv,hp,hz⟩:=I2.list hq
  have hlt:p < s2.heap.objs.size:=by obtain ⟨_,e,_⟩:=hp.isList;exact Heap.lt_size e
  have el:its.toArray.size=ns.length:=by rw [List.size_toArray,<-rv.length,List.length_map]
  have hval:∀ (i:Nat) (v:Value),its.toArray[i]?=some v->∃ t,v=.int (ns.getD i 0) t:=fun i v hv=>by
   have hv':its[i]?=some v:=by simpa using hv
   have hi:i < ns.length:=by
    have:=(List.getElem?_eq_some_iff.mp hv').1
    rw [<-el,List.size_toArray];exact this
   obtain ⟨u,hu,ru⟩:=rv.get (i:=i) (x:=V.int ns[i]) (by rw [List.getElem?_map,List.getElem?_eq_getElem hi];rfl)
   rw [hv'] at hu;cases hu
   obtain ⟨t,rfl⟩:=ru
   exact ⟨t,by show Value.int ns[i] t=Value.int (ns.getD i 0) t;rw [List.getD_eq_getElem?_getD,List.getElem?_eq_getElem hi];rfl⟩
  refine minD_call (wpAny_pyIter_list hp.isList ?_)
  refine ⟨s2.heap.objs.size,[s2.heap.objs.size,p],[s2.heap.objs.size],its.toArray.size,_,_,fun a b=>decide (ns.getD a 0 < ns.getD b 0),rfl,Walks.list (A:=X.A.in1) (I2.ok.hd hc) _ _ (Nat.ne_of_lt hlt) its.toArray,⟨⟨_,Heap.get?_push_size _ rfl,rfl,rfl⟩,hp.isList.push _⟩,?_,CmpOf.ints_lt (fun i=>ns.getD i 0) hval,?_,?_⟩
  ·intro b hb
   simp only [List.mem_cons,List.not_mem_nil,or_false] at hb
   rw [Heap.size_push]
   rcases hb with rfl | rfl
   ·exact Nat.lt_succ_self _
   ·exact Nat.lt_succ_of_lt hlt
  ·intro hn h2 tk hk
   exact ⟨.int 0,H2,I2.kept fun b o e=>hk b o (fun z=>absurd (Heap.lt_size e) (by rw [List.mem_singleton.mp z];exact Nat.lt_irrefl _)) (Heap.get?_push_of_some _ e),⟨_,rfl⟩,q0 (List.length_eq_zero_iff.mp (by omega))⟩
  ·intro hn v h2 tk hv hk
   obtain ⟨t,rfl⟩:=hval _ _ hv
   have hb:=best_in (fun a b=>decide (ns.getD a 0 < ns.getD b 0)) (its.toArray.size - 1)
   have hle:=best_le (fun i=>ns.getD i 0) (its.toArray.size - 1)
   generalize argBest (fun a b=>decide (ns.getD a 0 < ns.getD b 0)) (its.toArray.size - 1)=k at hb hle hv
   have hkl:k < ns.length:=by omega
   refine ⟨.int (ns.getD k 0),H2,I2.kept fun b o e=>hk b o (fun z=>absurd (Heap.lt_size e) (by rw [List.mem_singleton.mp z];exact Nat.lt_irrefl _)) (Heap.get?_push_of_some _ e),⟨_,rfl⟩,qm _ ?_ fun m hm=>?_⟩
   ·rw [List.getD_eq_getElem?_getD,List.getElem?_eq_getElem hkl];exact List.getElem_mem hkl
   ·obtain ⟨j,hj,rfl⟩:=List.mem_iff_getElem.mp hm
    have:=hle j (by omega)
    rw [List.getD_eq_getElem?_getD (i:=j),List.getElem?_eq_getElem hj] at this
    exact this
end
end Vm
namespace K64
open PySem PySem.Spec PyProof.Rows L2 L3 Vm
section
variable {P:Program} {w:World} {K:PySem.W.Frag} {mg:Str->Option Value} {base:Heap}
structure Dfn (K:PySem.W.Frag) (mg:Str->Option Value) (x:Str) (st:Stmt) (f:Addr) (fd:FuncData) (ps:List Str):Prop where
 fn:Fun K x x st f fd
 at_:mg x=some (.ref f)
 bn:Binds K fd ps []
theorem kit_same (v:Value):PySem.W.kitOne K v v=some true:=by
 unfold PySem.W.kitOne
 rw [if_pos (beq_self_eq_true _)]
def cellD (ns:List Int) (k:Int):Int:=(ns[k.toNat]?).getD 0
def spCell (K:PySem.W.Frag):Sp:=fun vs H Q _=>∃ (a:Addr) (ns:List Int) (k:Int),vs=[.ref a,.int k]/\SqL K H a (ns.map V.int)/\0<=k/\Q (.int (cellD ns k)) H
theorem scCell:FnScope ["script","k"] ["script","k"] (defScope sCell):=⟨rfl,rfl,rfl,by decide +kernel,rfl,by decide +kernel,by decide +kernel⟩
theorem ok_cell {f:Addr} {fd:FuncData} (F:Fun K "_law_cell_at" "_law_cell_at" sCell f fd) (mlen:mg "len" = none):FnOk P w K mg base CX0 1 f fd ["script","k"] (spCell K):=by
 refine Fun.okR F scCell (fun vs H Q E h=>?_) (fun cdv A outer s H vs Q Q2 E hr h hq=>?_)
 ·obtain ⟨a,ns,k,rfl,_⟩:=h
  rfl
 ·obtain ⟨a,ns,k,rfl,hS,h0,q⟩:=h
  refine ⟨_,pss_cons (ps_if (pt_cmpR op_lt (pv 1) (pe_callB call_len_seq (by rfl) mlen PySem.boot_len (pa_cons (pv 0) pa_nil)) (nomark _)) (pss_one (ps_ret (pe_ix ix_list (pv 0) (pv 1) (fun _ _=>rfl)))) pss_nil)
   (pss_one (ps_ret pe_int)),?_⟩
  refine ⟨_,rfl,_,rfl,a,_,rfl,.inl hS,_,_,rfl,rfl,_,rfl,?_⟩
  obtain ⟨j,hj⟩:∃ j:Nat,k=(j:Int):=⟨k.toNat,by omega⟩
  subst hj
  refine ite2 (fun h=>?_) (fun h=>?_)
  ·have hl:=of_decide_eq_true h
   rw [List.length_map] at hl
   have hj':j < ns.length:=by omega
   have e:cellD ns (j:Int)=ns[j]:=by unfold cellD;rw [Int.toNat_natCast,List.getElem?_eq_getElem hj'];rfl
   rw [e] at q
   exact ⟨_,rfl,_,rfl,a,_,_,_,rfl,rfl,hS,atI_nat (by rw [List.getElem?_map,List.getElem?_eq_getElem hj'];rfl),hq _ _ (Rst.same (Same.refl H) q)⟩
  ·have hl:¬ ((j:Int) < ((ns.map V.int).length:Int)):=fun c=>h (decide_eq_true c)
   rw [List.length_map] at hl
   have e:cellD ns (j:Int)=0:=by unfold cellD;rw [Int.toNat_natCast,List.getElem?_eq_none (by omega)];rfl
   rw [e] at q
   exact hq _ _ (Rst.same (Same.refl H) q)
def spHas:Sp:=fun vs H Q _=>∃ z y:Str,vs=[.str z,.str y]/\z.length<=sizeLine/\Q (.bl (onlyB z y)) H
theorem scHas:FnScope ["text","signs"] ["text","signs"] (defScope sHas):=⟨rfl,rfl,rfl,by decide +kernel,rfl,by decide +kernel,by decide +kernel⟩
theorem nd_sign:(["sign","signs"]:List Str).Nodup:=by decide +kernel
theorem ok_has {f:Addr} {fd:FuncData} (F:Fun K "has_only" "has_only" sHas f fd) (mall:mg "all" = none):FnOk P w K mg base CX0 1 f fd ["text","signs"] spHas:=by
 refine Fun.okR F scHas (fun vs H Q E h=>?_) (fun cdv A outer s H vs Q Q2 E hr h hq=>?_)
 ·obtain ⟨z,y,rfl,_⟩:=h
  rfl
 ·obtain ⟨z,y,rfl,hz,q⟩:=h
  refine ⟨_,pss_one (ps_ret (pe_callB (call_all rfl) (by rfl) mall boot_all (pa_cons (pe_comp (Nc:=["sign","signs"]) (mp:=[none,some 1]) rfl (CompOk.of (by rfl)) (pi_str (pv 0))
   (fun cl C s H fp=>⟨pg_name (i:=0) nd_sign rfl (Or.inl rfl),pts_nil,pe_cmpR op_in_str (pv 0) (pv 1) (by with_unfolding_all rfl)⟩)) pa_nil))),?_⟩
  refine ⟨_,rfl,z,rfl,comp_map (as:=z.cps.toList) (fun c=>.bl (decide (c ∈ y.cps.toList))) (src_str z H) (by rw [clen];exact hz) (fun c hc k hk=>?_) (fun D hD=>?_)⟩
  ·refine ⟨_,rfl,_,rfl,_,_,rfl,rfl,?_⟩
   rw [PySem.StrLaws.found_one]
   exact hk
  ·refine ⟨D,z.cps.toList.map fun c=>decide (c ∈ y.cps.toList),rfl,SqL.of ?_,?_⟩
   ·rw [upd_same,List.map_map];rfl
   ·refine hq _ _ (Rst.same (same_upd hD) ?_)
    have e:(z.cps.toList.map fun c=>decide (c ∈ y.cps.toList)).all id=onlyB z y:=by
     unfold onlyB;rw [List.all_map];rfl
    rw [e];exact q
def spIsW:Sp:=fun vs H Q _=>∃ z:Str,vs=[.str z]/\z.length<=sizeLine/\Q (.bl (wordB z)) H
theorem scIsW:FnScope ["text"] ["text"] (defScope sIsW):=⟨rfl,rfl,rfl,by decide +kernel,rfl,by decide +kernel,by decide +kernel⟩
theorem ok_isw {f g:Addr} {fd gd:FuncData} (F:Fun K "is_word" "is_word" sIsW f fd) (D:Dfn K mg "has_only" sHas g gd ["text","signs"]) (mall:mg "all" = none) (mlen:mg "len" = none)
  {tl tm:Tok} (mL:mg "LETTERS" = some (.str letters tl)) (mM:mg "MOST_LETTERS" = some (.int 12 tm)):FnOk P w K mg base CX0 2 f fd ["text"] spIsW:=by
 have G:FnOk P w K mg base CX0 1 g gd ["text","signs"] spHas:=ok_has D.fn mall
 refine Fun.okR F scIsW (fun vs H Q E h=>?_) (fun cdv A outer s H vs Q Q2 E hr h hq=>?_)
 ·obtain ⟨z,rfl,_⟩:=h
  rfl
 ·obtain ⟨z,rfl,hz,q⟩:=h
  refine ⟨_,pss_one (ps_ret (pe_and (pe_chain op_le op_le pe_int (pe_callB call_len_str (by rfl) mlen PySem.boot_len (pa_cons (pv 0) pa_nil)) (pe_glob (v:=.int 12) (by rfl) mM ⟨_,rfl⟩))
   (pe_one (pe_call G hr (by rfl) D.at_ D.fn.kp D.bn .nil pass0 (pa_cons (pv 0) (pa_cons (pe_glob (v:=.str letters) (by rfl) mL ⟨_,rfl⟩) pa_nil)))))),?_⟩
  refine ⟨_,rfl,z,rfl,hz,_,_,rfl,rfl,_,rfl,?_⟩
  refine ite2 (fun h1=>?_) (fun h1=>?_)
  ·refine ⟨_,_,rfl,rfl,_,rfl,?_⟩
   refine ite2 (fun h2=>?_) (fun h2=>?_)
   ·refine ⟨_,rfl,z,letters,rfl,hz,hq _ _ (Rst.same (Same.refl H) ?_)⟩
    have e:wordB z=onlyB z letters:=by
     unfold wordB
     rw [decide_eq_true (show 1<=z.length/\z.length<=12 from ⟨by have:=of_decide_eq_true h1;omega,by have:=of_decide_eq_true h2;omega⟩),Bool.true_and]
    rw [<-e];exact q
   ·refine hq _ _ (Rst.same (Same.refl H) ?_)
    have e:wordB z=false:=by
     unfold wordB
     rw [decide_eq_false (fun c=>h2 (decide_eq_true (by have:=c.2;omega))),Bool.false_and]
    rw [<-e];exact q
  ·refine ⟨_,rfl,iteF (hq _ _ (Rst.same (Same.refl H) ?_))⟩
   have e:wordB z=false:=by
    unfold wordB
    rw [decide_eq_false (fun c=>h1 (decide_eq_true (by have:=c.1;omega))),Bool.false_and]
   rw [<-e];exact q
def spWr:Sp:=fun vs H Q _=>∃ z:Str,vs=[.str z]/\z.length<=sizeLine/\Q (.bl (writesB z)) H
theorem scWr:FnScope ["text"] ["text"] (defScope sWr):=⟨rfl,rfl,rfl,by decide +kernel,rfl,by decide +kernel,by decide +kernel⟩
theorem sign_eq (c d:Nat):(V.str ⟨#[c]⟩=V.str ⟨#[d]⟩) ↔ c=d:=⟨fun e=>by injection e with e;injection e with e;simpa using e,fun e=>by rw [e]⟩
theorem nought_eq:Str.ofString "0" = (⟨#[48]⟩:Str):=by decide +kernel
theorem ok_wr {f g:Addr} {fd gd:FuncData} (F:Fun K "writes_number" "writes_number" sWr f fd) (D:Dfn K mg "has_only" sHas g gd ["text","signs"]) (mall:mg "all" = none) {tf:Tok} (mF:mg "FIGURES" = some (.str figures tf)):FnOk P w K mg base CX0 2 f fd ["text"] spWr:=by
 have G:FnOk P w K mg base CX0 1 g gd ["text","signs"] spHas:=ok_has D.fn mall
 refine Fun.okR F scWr (fun vs H Q E h=>?_) (fun cdv A outer s H vs Q Q2 E hr h hq=>?_)
 ·obtain ⟨z,rfl,_⟩:=h
  rfl
 ·obtain ⟨z,rfl,hz,q⟩:=h
  refine ⟨_,pss_cons (ps_if (pw_or (pt_cmpR op_eq (pv 0) pe_str (nomark _)) (pw_or1 (pt_not (pt_val (pe_call G hr (by rfl) D.at_ D.fn.kp D.bn .nil pass0 (pa_cons (pv 0) (pa_cons (pe_glob (v:=.str figures) (by rfl) mF ⟨_,rfl⟩) pa_nil))))))).pt (pss_one (ps_ret pe_bl)) pss_nil)
   (pss_one (ps_ret (pe_or (pe_cmpR op_eq (pv 0) pe_str (nomark _)) (pe_one (pe_cmpR op_ne (pe_ix ix_str (pv 0) pe_int (fun _ _=>rfl)) pe_str (nomark _)))))),?_⟩
  have go:∀ b,writesB z=b->Q2 (.bl b) H:=fun b e=>hq _ _ (Rst.same (Same.refl H) (by rw [<-e];exact q))
  refine ⟨_,rfl,rfl,_,rfl,?_⟩
  refine ite2 (fun h=>?_) (fun h=>?_)
  ·have e:=of_decide_eq_true h
   injection e with e
   exact iteT (go _ (by unfold writesB;rw [if_pos e]))
  have hne:¬ z=Str.ofString "" := fun e=>h (decide_eq_true (by rw [e]))
  refine ⟨_,rfl,z,figures,rfl,hz,_,rfl,?_⟩
  cases ho:onlyB z figures with
  | false=>exact iteT (go _ (by unfold writesB;rw [if_neg hne,ho];rfl))
  | true=>
   refine iteF ⟨_,rfl,rfl,_,rfl,?_⟩
   have ew:writesB z=(decide (z=Str.ofString "0") || !decide (z.cps.toList[0]?=some 48)):=by unfold writesB;rw [if_neg hne,ho];rfl
   refine ite2 (fun h0=>?_) (fun h0=>?_)
   ·have e:=of_decide_eq_true h0
    injection e with e
    exact go _ (by rw [ew,decide_eq_true e,Bool.true_or])
   ·have e0:¬ z=Str.ofString "0" := fun e=>h0 (decide_eq_true (by rw [e]))
    have hl:0 < z.cps.toList.length:=List.length_pos_iff.mpr (ne_nil hne)
    refine ⟨_,rfl,z,0,z.cps.toList[0],rfl,rfl,hz,atI_nat (j:=0) (List.getElem?_eq_getElem hl),rfl,go _ ?_⟩
    rw [ew,decide_eq_false e0,Bool.false_or,List.getElem?_eq_getElem hl]
    congr 1
    refine decide_eq_decide.mpr ?_
    rw [nought_eq,sign_eq]
    exact ⟨fun e=>Option.some.inj e,fun e=>by rw [e]⟩
def spNum:Sp:=fun vs H Q _=>∃ (z:Str) (most:Int),vs=[.str z,.int most]/\z.length<=10000/\0<=most/\most<=10 ^ 30/\Q (optV (pnum z most)) H
theorem scNum:FnScope ["text","most","number"] ["text","most"] (defScope sNum):=⟨rfl,rfl,rfl,by decide +kernel,rfl,by decide +kernel,by decide +kernel⟩
theorem wr_parts {z:Str} (h:writesB z=true):z ≠ Str.ofString ""/\onlyB z figures=true:=by
 unfold writesB at h
 by_cases h0:z=Str.ofString ""
 ·rw [if_pos h0] at h;cases h
 ·rw [if_neg h0] at h
  refine ⟨h0,?_⟩
  by_cases h1:onlyB z figures=true
  ·exact h1
  ·rw [if_neg h1] at h;cases h
theorem ok_num {f g gH:Addr} {fd gd dH:FuncData} (F:Fun K "number_of" "number_of" sNum f fd) (D:Dfn K mg "writes_number" sWr g gd ["text"]) (DH:Dfn K mg "has_only" sHas gH dH ["text","signs"]) (mall:mg "all" = none) (mlen:mg "len" = none) (mstr:mg "str" = none) (mint:mg "int" = none)
  {tf:Tok} (mF:mg "FIGURES" = some (.str figures tf)):FnOk P w K mg base CX0 3 f fd ["text","most"] spNum:=by
 have G:FnOk P w K mg base CX0 2 g gd ["text"] spWr:=ok_wr D.fn DH mall mF
 refine Fun.okR F scNum (fun vs H Q E h=>?_) (fun cdv A outer s H vs Q Q2 E hr h hq=>?_)
 ·obtain ⟨z,m,rfl,_⟩:=h
  rfl
 ·obtain ⟨z,m,rfl,hz,h0,h1,q⟩:=h
  refine ⟨_,pss_cons (ps_if (pw_or (pt_not (pt_val (pe_call G hr (by rfl) D.at_ D.fn.kp D.bn .nil pass0 (pa_cons (pv 0) pa_nil)))) (pw_or1 (pt_cmpR op_gt (pe_callB call_len_str (by rfl) mlen PySem.boot_len (pa_cons (pv 0) pa_nil)) (pe_callB call_len_str (by rfl) mlen PySem.boot_len (pa_cons (pe_callTy call_str_int (by rfl) mstr boot_str (pa_cons (pv 1) pa_nil)) pa_nil)) (nomark _)))).pt (pss_one (ps_ret pe_non)) pss_nil)
   (pss_cons (ps_set (i:=2) scNum.nd rfl (Or.inl rfl) (pe_callTy call_int_text (by rfl) mint boot_int (pa_cons (pv 0) pa_nil)))
   (pss_one (ps_ret (pe_ifExp (pt_cmpR op_le (pv 2) (pv 1) (nomark _)) (pv 2) pe_non)))),?_⟩
  have go:∀ o,pnum z m=o->Q2 (optV o) H:=fun b e=>hq _ _ (Rst.same (Same.refl H) (by rw [<-e];exact q))
  have hm40:m < 10 ^ 40:=by omega
  refine ⟨_,rfl,z,rfl,few (by omega),_,rfl,?_⟩
  cases hw:writesB z with
  | false=>exact iteT (iteT (go none (by unfold pnum;rw [hw];rfl)))
  | true=>
   obtain ⟨hne,ho⟩:=wr_parts hw
   have hnl:=numS_len h0 hm40
   refine iteF ⟨_,rfl,z,rfl,few (by omega),_,rfl,m,rfl,log_ok h0 hm40,numS m,rfl,few (by omega),_,_,rfl,rfl,_,rfl,?_⟩
   refine ite2 (fun h=>?_) (fun h=>?_)
   ·have hl:=of_decide_eq_true h
    exact go none (pnum_long (most_lt h0) (numS_pos m h0) (by omega))
   ·have hl:¬ (((numS m).length:Int) < (z.length:Int)):=fun c=>h (decide_eq_true c)
    refine ⟨_,rfl,z,_,rfl,digits_read ho hne (by omega),by omega,?_⟩
    refine ⟨_,rfl,_,rfl,_,_,rfl,rfl,_,rfl,?_⟩
    refine ite2 (fun h2=>?_) (fun h2=>?_)
    ·exact ⟨_,rfl,go (some _) (by unfold pnum;rw [hw,if_pos rfl,if_pos (of_decide_eq_true h2)])⟩
    ·exact go none (by unfold pnum;rw [hw,if_pos rfl,if_neg fun c=>h2 (decide_eq_true c)])
def spKW:Sp:=fun vs H Q _=>∃ n:Nat,vs=[.int (n:Nat)]/\n<=1000/\∀ l,H l=none->Q (.ref l) (upd H l (.lst ((kw n).map V.str)))
theorem scKW:FnScope ["many"] ["many"] (defScope sKW):=⟨rfl,rfl,rfl,by decide +kernel,rfl,by decide +kernel,by decide +kernel⟩
theorem ok_kw {f:Addr} {fd:FuncData} (F:Fun K "keeps_written" "keeps_written" sKW f fd) (mstr:mg "str" = none):FnOk P w K mg base CX0 1 f fd ["many"] spKW:=by
 refine F.ok scKW (fun vs H Q E h=>?_) (fun cdv A outer s H vs Q E hr h=>?_)
 ·obtain ⟨n,rfl,_⟩:=h
  rfl
 ·obtain ⟨n,rfl,hn,q⟩:=h
  refine ⟨_,pss_one (ps_ret (pe_ifExp (pt_cmpR op_gt (pv 0) pe_int (nomark _)) (pe_lst (pa_cons (pe_callTy call_str_int (by rfl) mstr boot_str (pa_cons (pv 0) pa_nil)) pa_nil)) (pe_lst pa_nil))),?_⟩
  refine ⟨_,rfl,_,_,rfl,rfl,_,rfl,?_⟩
  refine ite2 (fun h=>?_) (fun h=>?_)
  ·have h0:=of_decide_eq_true h
   refine ⟨_,rfl,((n:Nat):Int),rfl,log_ok (by omega) (by omega),few (by show 1<=_;omega),fun l hl=>?_⟩
   have e:kw n=[numS (n:Int)]:=by unfold kw;rw [if_neg (by omega)]
   have:=q l hl
   rw [e] at this
   exact this
  ·have h0:¬ ((0:Int) < (n:Int)):=fun c=>h (decide_eq_true c)
   have e:kw n=[]:=by unfold kw;rw [if_pos (by omega)]
   refine ⟨Nat.zero_le _,fun l hl=>?_⟩
   have:=q l hl
   rw [e] at this
   exact this
def spSW (K:PySem.W.Frag):Sp:=fun vs H Q _=>∃ (t:Addr) (st:Sk),vs=[.ref t]/\SqT K H t (stepV st)/\okS st/\Q (.str (itemS st)) H
theorem scSW:FnScope ["step"] ["step"] (defScope sSW):=⟨rfl,rfl,rfl,by decide +kernel,rfl,by decide +kernel,by decide +kernel⟩
theorem nd_part:(["part"]:List Str).Nodup:=by decide +kernel
theorem parts_sum {st:Sk} (h:okS st):((partsS st).map (·.length)).sum+(partsS st).length * (Str.ofString " ").length<=16777216:=by
 have e1:(Str.ofString " ").length=1:=by decide +kernel
 have e2:(partsS st).length<=2:=by unfold partsS;rw [List.length_map];cases st <;> simp [stepV]
 have e3:∀ z ∈ partsS st,z.length<=60:=by
  intro z hz
  unfold partsS at hz
  obtain ⟨x,hx,rfl⟩:=List.mem_map.mp hz
  have k:∀ k ∈ kinds,k.length<=60:=fun k hk=>by have:=(kinds_facts k hk).1;omega
  cases st with
  | skip m=>
   rcases List.mem_cons.mp hx with e | hx
   ·rw [e];exact k _ (by simp [kinds,textV])
   ·rw [List.mem_singleton.mp hx]
    have:=numS_len (n:=((m:Nat):Int)) (by omega) (by have:=h.2;omega)
    show (numS _).length<=60
    omega
  | turn y=>
   rcases List.mem_cons.mp hx with e | hx
   ·rw [e];exact k _ (by simp [kinds,textV])
   ·rw [List.mem_singleton.mp hx];have:=(show Good y from h).hi;show y.length<=60;omega
  | add y=>
   rcases List.mem_cons.mp hx with e | hx
   ·rw [e];exact k _ (by simp [kinds,textV])
   ·rw [List.mem_singleton.mp hx];have:=(show Good y from h).hi;show y.length<=60;omega
  | keep=>rw [List.mem_singleton.mp hx];exact k _ (by simp [kinds,textV])
  | lose=>rw [List.mem_singleton.mp hx];exact k _ (by simp [kinds,textV])
  | twice=>rw [List.mem_singleton.mp hx];exact k _ (by simp [kinds,textV])
  | swap=>rw [List.mem_singleton.mp hx];exact k _ (by simp [kinds,textV])
 have:=sum60 e3
 rw [e1]
 omega
theorem ok_sw {f:Addr} {fd:FuncData} (F:Fun K "step_written" "step_written" sSW f fd) (mstr:mg "str" = none):FnOk P w K mg base CX0 1 f fd ["step"] (spSW K):=by
 refine Fun.okR F scSW (fun vs H Q E h=>?_) (fun cdv A outer s H vs Q Q2 E hr h hq=>?_)
 ·obtain ⟨t,st,rfl,_⟩:=h
  rfl
 ·obtain ⟨t,st,rfl,ht,ho,q⟩:=h
  refine ⟨_,pss_one (ps_ret (pe_bm PySem.F.plainAttrs_str PySem.F.slot_str_join PySem.F.type_str_join mt_join pe_str (pa_cons (pe_comp (Nc:=["part"]) (mp:=[none]) rfl (CompOk.of (by rfl)) (pi_tup (pv 0))
   (fun cl C s H fp=>⟨pg_name (i:=0) nd_part rfl (Or.inl rfl),pts_nil,pe_callTy call_str_any (by rfl) mstr boot_str (pa_cons (pv 0) pa_nil)⟩)) pa_nil))),?_⟩
  refine ⟨rfl,_,rfl,t,rfl,⟨_,ht⟩,comp_map (as:=stepV st) (v:=id) (fun x=>.str (textV x)) (by rw [List.map_id];exact src_tup ht) (few (by cases st <;> simp [stepV])) (fun x hx k hk=>?_) (fun D hD=>?_)⟩
  ·rcases part_kind ho x hx with ⟨z,rfl⟩ | ⟨m,rfl,hm⟩
   ·exact ⟨_,rfl,.inr ⟨z,rfl,hk⟩⟩
   ·exact ⟨_,rfl,.inl ⟨((m:Nat):Int),rfl,log_ok (by omega) (by omega),hk⟩⟩
  ·refine ⟨_,D,partsS st,rfl,rfl,.inl (SqL.of ?_),parts_sum ho,hq _ _ (Rst.same (same_upd hD) q)⟩
   rw [upd_same]
   unfold partsS
   rw [List.map_map]
   rfl
def spWrt (K:PySem.W.Frag):Sp:=fun vs H Q _=>∃ (q:Addr) (ts:List Addr) (sts:List Sk),vs=[.ref q]/\SqT K H q (ts.map V.ref)/\StepsAt K H ts sts/\sts.length<=1000/\Q (.str (textS sts)) H
theorem scWrt:FnScope ["steps","items","kept","step"] ["steps"] (defScope sWrt):=⟨rfl,rfl,rfl,by decide +kernel,rfl,by decide +kernel,by decide +kernel⟩
theorem ok_wrt {f gK gS:Addr} {fd dK dS:FuncData} (F:Fun K "slips_written" "slips_written" sWrt f fd) (DK:Dfn K mg "keeps_written" sKW gK dK ["many"]) (DS:Dfn K mg "step_written" sSW gS dS ["step"]) (mstr:mg "str" = none):FnOk P w K mg base CX0 2 f fd ["steps"] (spWrt K):=by
 have GK:FnOk P w K mg base CX0 1 gK dK ["many"] spKW:=ok_kw DK.fn mstr
 have GS:FnOk P w K mg base CX0 1 gS dS ["step"] (spSW K):=ok_sw DS.fn mstr
 refine Fun.okR F scWrt (fun vs H Q E h=>?_) (fun cdv A outer s H vs Q Q2 E hr h hq=>?_)
 ·obtain ⟨q,ts,sts,rfl,_⟩:=h
  rfl
 ·obtain ⟨p,ts,sts,rfl,hp,hst,hn,q⟩:=h
  refine ⟨_,pss_cons (ps_set (i:=1) scWrt.nd rfl (Or.inl rfl) (pe_lst pa_nil))
   (pss_cons (ps_set (i:=2) scWrt.nd rfl (Or.inl rfl) pe_int)
   (pss_cons (ps_for PassesOwn.never rfl (pi_tup (pv 0)) (pg_name (i:=3) scWrt.nd rfl (Or.inl rfl))
    (pss_one (ps_if (pt_cmpR (op_eqS hr.units) (pv 3) (pe_tup (pa_cons pe_str pa_nil)) (nomark _))
     (pss_one (ps_set (i:=2) scWrt.nd rfl (Or.inl rfl) (pe_op op_add (pv 2) pe_int)))
     (pss_cons (ps_expr (pe_bm PySem.F.plainAttrs_list PySem.F.slot_list_extend PySem.F.type_list_extend mt_extend (pv 1) (pa_cons (pe_call GK hr (by rfl) DK.at_ DK.fn.kp DK.bn .nil pass0 (pa_cons (pv 2) pa_nil)) pa_nil)))
     (pss_cons (ps_expr (pe_bm PySem.F.plainAttrs_list PySem.F.slot_list_append PySem.F.type_list_append mt_append (pv 1) (pa_cons (pe_call GS hr (by rfl) DS.at_ DS.fn.kp DS.bn .nil pass0 (pa_cons (pv 3) pa_nil)) pa_nil)))
     (pss_one (ps_set (i:=2) scWrt.nd rfl (Or.inl rfl) pe_int)))))))
   (pss_cons (ps_expr (pe_bm PySem.F.plainAttrs_list PySem.F.slot_list_extend PySem.F.type_list_extend mt_extend (pv 1) (pa_cons (pe_call GK hr (by rfl) DK.at_ DK.fn.kp DK.bn .nil pass0 (pa_cons (pv 2) pa_nil)) pa_nil)))
   (pss_one (ps_ret (pe_bm PySem.F.plainAttrs_str PySem.F.slot_str_join PySem.F.type_str_join mt_join pe_str (pa_cons (pv 1) pa_nil))))))),?_⟩
  refine ⟨Nat.zero_le _,fun l hl=>?_⟩
  have S0:Same H (upd H l (.lst [])):=same_upd hl
  refine ⟨_,rfl,p,rfl,⟨_,sameT S0 hp⟩,for_tup (K:=K) (a:=p) (xs:=ts.map V.ref) (fun i σ H2=>∃ (k:Nat) (its:List Str) (v3:Option V),σ=[some (.ref p),some (.ref l),some (.int (k:Nat)),v3] ∧
   H2 l=some (.lst (its.map V.str))/\Same H H2/\wAll (sts.take i)=(its,k)/\k<=i/\its.length<=2 * i/\∀ z ∈ its,z.length<=60)
   ⟨0,[],none,rfl,upd_same,S0,rfl,Nat.le_refl _,Nat.le_refl _,fun _ z=>nomatch z⟩ (fun i σ H2 _ ⟨_,_,_,_,_,S,_⟩=>sameT S hp) ?_ ?_⟩
  ·rintro i y σ H2 hi ⟨k,its,v3,rfl,h1,S,hw,hk,hil,h60⟩
   obtain ⟨t,hti,rfl⟩:=ref_at hi
   have hil':i < sts.length:=by rw [<-hst.len];exact (List.getElem?_eq_some_iff.mp hti).1
   have hsi:sts[i]?=some sts[i]:=List.getElem?_eq_getElem hil'
   generalize hgs:sts[i]=st at hsi
   obtain ⟨hT,hO⟩:=hst.item i t st hti hsi
   have wt:=wAll_turn hsi
   rw [hw] at wt
   refine ⟨_,rfl,few (by show 1<=_;omega),fun tk htk=>⟨0,isKeep st,by decide,?_,_,rfl,?_⟩⟩
   ·rw [<-keep_eq st]
    exact EqS.flats (.inr ⟨sameT (S.trans (same_upd htk)) hT,SqT.of upd_same⟩) (step_flat st) rfl
   have S1:=S.trans (same_upd (o:=.tup [.str (Str.ofString "keep")]) htk)
   have k1:=same_upd (o:=.tup [.str (Str.ofString "keep")]) htk _ _ h1
   generalize hH3:upd H2 tk (.tup [.str (Str.ofString "keep")])=H3 at S1 k1
   cases hkp:isKeep st with
   | true=>
    have e:wStep (its,k) st=(its,k+1):=by unfold wStep;rw [if_pos hkp]
    refine iteT ⟨_,rfl,_,_,rfl,rfl,k+1,its,_,rfl,k1,S1,by rw [wt,e],by omega,by omega,h60⟩
   | false=>
    have e:wStep (its,k) st=(its++kw k++[itemS st],0):=by unfold wStep;rw [if_neg (by rw [hkp];exact Bool.false_ne_true)]
    have kk:=kw_len (n:=k) (by omega)
    refine iteF ⟨_,rfl,.inl ⟨rfl,_,SqL.of k1⟩,_,rfl,k,rfl,by omega,fun b hb=>?_⟩
    have Sb:=same_upd (o:=.lst ((kw k).map V.str)) hb
    have kb:=Sb _ _ k1
    refine ⟨l,b,_,_,rfl,rfl,kb,upd_same,(by rw [List.length_map,List.length_map];exact few (by omega)),?_⟩
    have S2:=same_to (o:=.lst (its.map V.str++(kw k).map V.str)) (S1.trans Sb) hl
    have k2:upd (upd H3 b (.lst ((kw k).map V.str))) l (.lst (its.map V.str++(kw k).map V.str)) l=some (.lst (its.map V.str++(kw k).map V.str)):=upd_same
    generalize hH4:upd (upd H3 b (.lst ((kw k).map V.str))) l (.lst (its.map V.str++(kw k).map V.str))=H4 at S2 k2
    refine ⟨_,rfl,.inl ⟨rfl,_,SqL.of k2⟩,_,rfl,t,st,rfl,sameT S2 hT,hO,l,_,_,rfl,rfl,k2,(by rw [List.length_append,List.length_map,List.length_map];exact fewer (by omega)),?_⟩
    refine ⟨0,its++kw k++[itemS st],_,rfl,?_,same_to S2 hl,by rw [wt,e],by omega,?_,fun z hz=>?_⟩
    ·rw [upd_same,List.map_append,List.map_append];rfl
    ·rw [List.length_append,List.length_append];show _+_+1<=_;omega
    ·rcases List.mem_append.mp hz with hz | hz
     ·rcases List.mem_append.mp hz with hz | hz
      ·exact h60 z hz
      ·exact kk.2 z hz
     ·rw [List.mem_singleton.mp hz];exact item_len hO
  ·rintro σ H2 ⟨k,its,v3,rfl,h1,S,hw,hk,hil,h60⟩
   rw [List.length_map,hst.len] at hk hil
   rw [List.length_map,hst.len,List.take_length] at hw
   have kk:=kw_len (n:=k) (by omega)
   refine ⟨_,rfl,.inl ⟨rfl,_,SqL.of h1⟩,_,rfl,k,rfl,by omega,fun b hb=>?_⟩
   have Sb:=same_upd (o:=.lst ((kw k).map V.str)) hb
   refine ⟨l,b,_,_,rfl,rfl,Sb _ _ h1,upd_same,(by rw [List.length_map,List.length_map];exact few (by omega)),?_⟩
   have S2:=same_to (o:=.lst (its.map V.str++(kw k).map V.str)) (S.trans Sb) hl
   have ei:itemsS sts=its++kw k:=by unfold itemsS;rw [hw]
   have l60:∀ z ∈ its++kw k,z.length<=60:=fun z hz=>by
    rcases List.mem_append.mp hz with hz | hz
    ·exact h60 z hz
    ·exact kk.2 z hz
   have s60:=sum60 l60
   have e2:(Str.ofString ", ").length=2:=by decide +kernel
   refine ⟨rfl,_,rfl,_,l,its++kw k,rfl,rfl,.inl (SqL.of (by rw [upd_same,List.map_append])),?_,?_⟩
   ·have e3:(its++kw k).length<=2001:=by rw [List.length_append];omega
    show _+(its++kw k).length * (Str.ofString ", ").length<=_
    rw [e2]
    omega
   ·refine hq _ _ (Rst.same S2 ?_)
    rw [<-ei]
    exact q
def spCnt:Sp:=fun vs H Q _=>∃ z:Str,vs=[.str z]/\z.length<=10000/\Q (optV (cntI z)) H
theorem scCnt:FnScope ["text","number"] ["text"] (defScope sCnt):=⟨rfl,rfl,rfl,by decide +kernel,rfl,by decide +kernel,by decide +kernel⟩
theorem ok_cnt {f g:Addr} {fd gd:FuncData} (F:Fun K "count_read" "count_read" sCnt f fd) (DN:Dfn K mg "number_of" sNum g gd ["text","most"]) (GN:FnOk P w K mg base CX0 3 g gd ["text","most"] spNum) {ts:Tok} (mS:mg "MOST_STEPS" = some (.int 80 ts)):FnOk P w K mg base CX0 4 f fd ["text"] spCnt:=by
 refine Fun.okR F scCnt (fun vs H Q E h=>?_) (fun cdv A outer s H vs Q Q2 E hr h hq=>?_)
 ·obtain ⟨z,rfl,_⟩:=h
  rfl
 ·obtain ⟨z,rfl,hz,q⟩:=h
  refine ⟨_,pss_cons (ps_set (i:=1) scCnt.nd rfl (Or.inl rfl) (pe_call GN hr (by rfl) DN.at_ DN.fn.kp DN.bn .nil pass0 (pa_cons (pv 0) (pa_cons (pe_glob (v:=.int 80) (by rfl) mS ⟨_,rfl⟩) pa_nil))))
   (pss_one (ps_ret (pe_ifExp (pt_cmpR op_eq (pv 1) pe_int (nomark _)) pe_non (pv 1)))),?_⟩
  have go:∀ o,cntI z=o->Q2 (optV o) H:=fun b e=>hq _ _ (Rst.same (Same.refl H) (by rw [<-e];exact q))
  refine ⟨_,rfl,z,80,rfl,hz,by decide,by decide,?_⟩
  cases hp:pnum z 80 with
  | none=>
   refine ⟨_,rfl,rfl,_,rfl,iteK (fun e=>nomatch e) ⟨_,rfl,go none ?_⟩⟩
   unfold cntI;rw [hp,if_neg (fun e=>nomatch e)]
  | some n=>
   by_cases h0:n=0
   ·subst h0
    exact ⟨_,rfl,rfl,_,rfl,iteY rfl (go none (by unfold cntI;rw [hp,if_pos rfl]))⟩
   ·refine ⟨_,rfl,rfl,_,rfl,iteK (fun e=>h0 (by injection e)) ⟨_,rfl,go (some n) ?_⟩⟩
    unfold cntI;rw [hp,if_neg (fun e=>h0 (Option.some.inj e))]
def spPair:Sp:=fun vs H Q _=>∃ k z:Str,vs=[.str k,.str z]/\z.length<=10000/\match pairR k z with
 | some st=>∀ t,H t=none->Q (.ref t) (upd H t (.tup (stepV st)))
 | none=>Q .non H
theorem scPair:FnScope ["kind","said","many"] ["kind","said"] (defScope sPair):=⟨rfl,rfl,rfl,by decide +kernel,rfl,by decide +kernel,by decide +kernel⟩
theorem pair_tup {k z:Str} (hk:k=turnS\/k=addS):stepV (if k=turnS then .turn z else .add z)=[.str k,.str z]:=by
 by_cases h:k=turnS
 ·rw [if_pos h,h];rfl
 ·rw [if_neg h]
  rcases hk with e | e
  ·exact absurd e h
  ·rw [e];rfl
theorem ok_pair {f gI gC aW:Addr} {fd dI dC:FuncData} (F:Fun K "pair_read" "pair_read" sPair f fd) (DI:Dfn K mg "is_word" sIsW gI dI ["text"]) (DC:Dfn K mg "count_read" sCnt gC dC ["text"]) (GI:FnOk P w K mg base CX0 2 gI dI ["text"] spIsW) (GC:FnOk P w K mg base CX0 4 gC dC ["text"] spCnt)
  (mWK:mg "WORD_KINDS" = some (.ref aW)) (hWK:∀ H,SqT K H aW [.str (Str.ofString "turn"),.str (Str.ofString "add")]):FnOk P w K mg base CX0 5 f fd ["kind","said"] spPair:=by
 have GI:FnOk P w K mg base CX0 4 gI dI ["text"] spIsW:=GI.mono (by decide)
 refine F.ok scPair (fun vs H Q E h=>?_) (fun cdv A outer s H vs Q E hr h=>?_)
 ·obtain ⟨k,z,rfl,_⟩:=h
  rfl
 ·obtain ⟨k,z,rfl,hz,q⟩:=h
  refine ⟨_,pss_cons (ps_mid (ps_if (pw_and (pt_cmpR op_in_seq (pv 0) (pe_glob (v:=.ref aW) (by rfl) mWK rfl) (by with_unfolding_all rfl)) (pw_and1 (pt_val (pe_call GI hr (by rfl) DI.at_ DI.fn.kp DI.bn .nil pass0 (pa_cons (pv 1) pa_nil))))).pt (pss_one (ps_ret (pe_tup (pa_cons (pv 0) (pa_cons (pv 1) pa_nil))))) pss_nil))
   (pss_cons (ps_set (i:=2) scPair.nd rfl (Or.inl rfl) (pe_call GC hr (by rfl) DC.at_ DC.fn.kp DC.bn .nil pass0 (pa_cons (pv 1) pa_nil)))
   (pss_cons (ps_if (pw_and (pt_cmpR op_eq (pv 0) pe_str (nomark _)) (pw_and1 (pt_cmpR op_notN (pv 2) pe_non (nomark _)))).pt (pss_one (ps_ret (pe_tup (pa_cons (pv 0) (pa_cons (pv 2) pa_nil))))) pss_nil)
   (pss_one (ps_ret pe_non)))),?_⟩
  have z2:(2:Nat)<=sizeLine:=few (by omega)
  refine ⟨fun σ' H'=>σ'=[some (.str k),some (.str z),none]/\H'=H/\¬ ((k=turnS\/k=addS)/\wordB z=true),?_,?_⟩
  ·refine ⟨_,rfl,aW,_,rfl,.inr (hWK H),rfl,rfl,_,rfl,?_⟩
   refine ite2 (fun h=>?_) (fun h=>iteF ⟨rfl,rfl,fun c=>h ((in_two _ _ _).mpr c.1)⟩)
   have hk:=(in_two _ _ _).mp h
   refine ⟨_,rfl,z,rfl,few (by omega),_,rfl,?_⟩
   cases hw:wordB z with
   | true=>
    refine iteT ⟨_,rfl,_,rfl,z2,fun t ht=>?_⟩
    have ep:pairR k z=some (if k=turnS then .turn z else .add z):=by unfold pairR;rw [if_pos ⟨hk,hw⟩]
    rw [ep] at q
    have:=q t ht
    rw [pair_tup hk] at this
    exact this
   | false=>exact iteF ⟨rfl,rfl,fun c=>absurd c.2 Bool.false_ne_true⟩
  ·rintro σ' H' ⟨rfl,rfl,hn⟩
   have ep:pairR k z=if k=skipS then (cntI z).map (fun n=>.skip n.toNat) else none:=by unfold pairR;rw [if_neg hn]
   refine ⟨_,rfl,z,rfl,hz,?_⟩
   refine ⟨_,rfl,rfl,_,rfl,?_⟩
   by_cases hk:k=skipS
   ·rw [if_pos hk] at ep
    refine iteY (by rw [hk];rfl) ?_
    cases hc:cntI z with
    | none=>
     rw [ep,hc] at q
     exact ⟨_,rfl,rfl,_,rfl,iteF q⟩
    | some n=>
     rw [ep,hc] at q
     have hn:=cnt_in hc
     refine ⟨_,rfl,rfl,_,rfl,?_⟩
     refine ite2 (fun _=>?_) (fun c=>absurd (by show (!decide (V.int n=V.non))=true;rw [decide_eq_false (fun z=>nomatch z),Bool.not_false]) c)
     refine ⟨_,rfl,_,rfl,z2,fun t ht=>?_⟩
     have:=q t ht
     have e:stepV (.skip n.toNat)=[.str k,.int n]:=by
      rw [hk]
      show [V.str skipS,.int ((n.toNat:Nat):Int)]=_
      rw [Int.toNat_of_nonneg (by omega)]
     rw [e] at this
     exact this
   ·rw [if_neg hk] at ep
    rw [ep] at q
    exact iteK (fun e=>hk (by injection e)) (iteF q)
def spItem (C:Addr):Sp:=fun vs H Q E=>∃ z:Str,vs=[.str z]/\z.length<=9500/\match itemR z with
 | some sts=>∀ (H':Hp) (l:Addr) (ts:List Addr),Same H H'->H' l=some (.lst (ts.map V.ref))->TupsAt H' ts sts->Q (.ref l) H'
 | none=>∀ H',Same H H'->E (.ref C) none H'
theorem scItem:FnScope ["item","kept","parts","step"] ["item"] (defScope sItem):=⟨rfl,rfl,rfl,by decide +kernel,rfl,by decide +kernel,by decide +kernel⟩
theorem ok_item {f gC gP aB C:Addr} {fd dC dP:FuncData} (F:Fun K "item_read" "item_read" sItem f fd) (DC:Dfn K mg "count_read" sCnt gC dC ["text"]) (DP:Dfn K mg "pair_read" sPair gP dP ["kind","said"]) (GC:FnOk P w K mg base CX0 4 gC dC ["text"] spCnt) (GP:FnOk P w K mg base CX0 5 gP dP ["kind","said"] spPair)
  (mBK:mg "BARE_KINDS" = some (.ref aB)) (hBK:∀ H,SqT K H aB [.str (Str.ofString "lose"),.str (Str.ofString "twice"),.str (Str.ofString "swap")]) (mC:mg "NoSlips" = some (.ref C)) (xC:VEx K C) (mlen:mg "len" = none):FnOk P w K mg base (CXv P w) 6 f fd ["item"] (spItem C):=by
 have GC:FnOk P w K mg base CX0 5 gC dC ["text"] spCnt:=GC.mono (by decide)
 refine Fun.okX F scItem (fun vs H Q E h=>?_) (fun cdv A outer s H vs Q E hr h=>?_)
 ·obtain ⟨z,rfl,_⟩:=h
  rfl
 ·obtain ⟨z,rfl,hz,q⟩:=h
  refine ⟨_,pss_cons (ps_mid (ps_if (pt_cmpR op_in_seq (pv 0) (pe_glob (v:=.ref aB) (by rfl) mBK rfl) (by with_unfolding_all rfl)) (pss_one (ps_ret (pe_lst (pa_cons (pe_tup (pa_cons (pv 0) pa_nil)) pa_nil)))) pss_nil))
   (pss_cons (ps_set (i:=1) scItem.nd rfl (Or.inl rfl) (pe_call GC hr (by rfl) DC.at_ DC.fn.kp DC.bn .nil pass0 (pa_cons (pv 0) pa_nil)))
   (pss_cons (ps_if (pt_cmpR op_notN (pv 1) pe_non (nomark _)) (pss_one (ps_ret (pe_op op_rep (pe_lst (pa_cons (pe_tup (pa_cons pe_str pa_nil)) pa_nil)) (pv 1)))) pss_nil)
   (pss_cons (ps_set (i:=2) scItem.nd rfl (Or.inl rfl) (pe_bm PySem.F.plainAttrs_str PySem.F.slot_str_split PySem.F.type_str_split mt_split (pv 0) (pa_cons pe_str pa_nil)))
   (pss_cons (ps_mid (ps_set (i:=3) scItem.nd rfl (Or.inl rfl) (pe_ifExp (pt_cmpR op_eq (pe_callB call_len_seq (by rfl) mlen PySem.boot_len (pa_cons (pv 2) pa_nil)) pe_int (nomark _)) (pe_call GP hr (by rfl) DP.at_ DP.fn.kp DP.bn .nil pass0 (pa_cons (pe_ix ix_list (pv 2) pe_int (fun _ _=>rfl)) (pa_cons (pe_ix ix_list (pv 2) pe_int (fun _ _=>rfl)) pa_nil))) pe_non)))
   (pss_cons (ps_if (pt_cmpR op_isN (pv 3) pe_non (nomark _)) (pss_one (ps_raise rfl (by rfl) mC xC lands_def pe_str)) pss_nil)
   (pss_one (ps_ret (pe_lst (pa_cons (pv 3) pa_nil))))))))),?_⟩
  have z1:(1:Nat)<=sizeLine:=few (by omega)
  refine ⟨fun σ' H'=>σ'=[some (.str z),none,none,none]/\H'=H/\z ≠ Str.ofString "lose"/\z ≠ Str.ofString "twice"/\z ≠ Str.ofString "swap",?_,?_⟩
  ·refine ⟨_,rfl,aB,_,rfl,.inr (hBK H),rfl,rfl,_,rfl,?_⟩
   refine ite2 (fun h=>?_) (fun h=>⟨rfl,rfl,fun c=>h ((in_three _ _ _ _).mpr (.inl c)),fun c=>h ((in_three _ _ _ _).mpr (.inr (.inl c))),fun c=>h ((in_three _ _ _ _).mpr (.inr (.inr c)))⟩)
   have hk:=(in_three _ _ _ _).mp h
   refine ⟨_,rfl,z1,fun t ht=>⟨z1,fun l hl=>?_⟩⟩
   have fin:∀ st,okS st->stepV st=[.str z]->itemR z=some [st]->Q (.ref l) (upd (upd H t (.tup [.str z])) l (.lst [.ref t])):=fun st ho ev ei=>by
    rw [ei] at q
    refine q _ l [t] ((same_upd ht).trans (same_upd hl)) upd_same (TupsAt.one ?_ ho)
    rw [upd_ne (ne_of_none upd_same hl),upd_same,ev]
   rcases hk with e | e | e
   ·exact fin .lose trivial (by rw [e];rfl) (by unfold itemR;rw [if_pos e])
   ·exact fin .twice trivial (by rw [e];rfl) (by unfold itemR;rw [if_neg (by rw [e];decide +kernel),if_pos e])
   ·exact fin .swap trivial (by rw [e];rfl) (by unfold itemR;rw [if_neg (by rw [e];decide +kernel),if_neg (by rw [e];decide +kernel),if_pos e])
  ·rintro σ' H' ⟨rfl,rfl,n1,n2,n3⟩
   refine ⟨_,rfl,z,rfl,by omega,?_⟩
   cases hc:cntI z with
   | some n=>
    have hn:=cnt_in hc
    refine ⟨_,rfl,rfl,_,rfl,?_⟩
    refine ite2 (fun _=>?_) (fun c=>absurd (by show (!decide (V.int n=V.non))=true;rw [decide_eq_false (fun z=>nomatch z),Bool.not_false]) c)
    have ei:itemR z=some (List.replicate n.toNat .keep):=by unfold itemR;rw [if_neg n1,if_neg n2,if_neg n3,hc]
    rw [ei] at q
    refine ⟨z1,fun t ht=>⟨z1,fun l hl=>⟨_,rfl,l,n,_,rfl,rfl,upd_same,by omega,by omega,(by show 1 * n.toNat<=_;exact few (by omega)),fun r hr'=>?_⟩⟩⟩
    refine q _ r (List.replicate n.toNat t) (((same_upd ht).trans (same_upd hl)).trans (same_upd hr')) ?_ ?_
    ·rw [upd_same,repFlat,List.map_replicate]
    ·refine TupsAt.rep (st:=.keep) ?_ trivial _
     exact same_upd hr' _ _ (same_upd hl _ _ upd_same)
   | none=>
    refine ⟨_,rfl,rfl,_,rfl,iteF ?_⟩
    have er:=item_rest n1 n2 n3 hc
    have ss:=split_small (z:=z) (y:=Str.ofString " ") (by decide +kernel)
    refine ⟨_,rfl,rfl,z,Str.ofString " ",rfl,rfl,(by decide +kernel),(by omega),fun l hl=>?_⟩
    generalize hsp:Txt.split z (Str.ofString " ")=sp at er ss
    have S1:=same_upd (o:=.lst (sp.map V.str)) hl
    have hl1:upd H' l (.lst (sp.map V.str)) l=some (.lst (sp.map V.str)):=upd_same
    generalize hH1:upd H' l (.lst (sp.map V.str))=H1 at S1 hl1
    refine ⟨fun σ' H2=>∃ v3,σ'=[some (.str z),some .non,some (.ref l),some v3]/\Same H' H2/\((itemR z=none/\v3=.non)\/∃ st t,itemR z=some [st]/\v3=.ref t/\H2 t=some (.tup (stepV st))/\okS st),?_,?_⟩
    ·refine ⟨_,rfl,l,_,rfl,.inl (SqL.of hl1),rfl,_,rfl,?_⟩
     rw [List.length_map]
     refine ite2 (fun h=>?_) (fun h=>?_)
     ·have e:=of_decide_eq_true h
      injection e with e
      obtain ⟨a,b,rfl⟩:∃ a b,sp=[a,b]:=by
       match sp,e with
       | [a,b],_=>exact ⟨a,b,rfl⟩
       | [],e=>simp at e
       | [_],e=>simp at e
       | _ :: _ :: _ :: _,e=>simp at e;omega
      have hb:b.length<=z.length+1:=ss.2 b (by simp)
      refine ⟨_,rfl,l,_,_,_,rfl,rfl,SqL.of hl1,rfl,_,rfl,l,_,_,_,rfl,rfl,SqL.of hl1,rfl,a,b,rfl,by omega,?_⟩
      have er':itemR z=(pairR a b).map fun st=>[st]:=er
      cases hp:pairR a b with
      | none=>
       rw [hp] at er'
       exact ⟨_,rfl,S1,.inl ⟨er',rfl⟩⟩
      | some st=>
       rw [hp] at er'
       intro t ht
       exact ⟨_,rfl,S1.trans (same_upd ht),.inr ⟨st,t,er',rfl,upd_same,(pair_ok hp).1⟩⟩
     ·refine ⟨_,rfl,S1,.inl ⟨?_,rfl⟩⟩
      rw [er]
      have h2:¬ ((sp.length:Int)=2):=fun c=>h (decide_eq_true (by rw [c]))
      match sp,h2 with
      | [],_=>rfl
      | [_],_=>rfl
      | [_,_],h2=>exact absurd rfl h2
      | _ :: _ :: _ :: _,_=>rfl
    ·rintro σ' H2 ⟨v3,rfl,S2,hv⟩
     rcases hv with ⟨ei,rfl⟩ | ⟨st,t,ei,rfl,ht,ho⟩
     ·rw [ei] at q
      exact ⟨_,rfl,rfl,_,rfl,iteY rfl ⟨z1,q _ S2⟩⟩
     ·rw [ei] at q
      refine ⟨_,rfl,rfl,_,rfl,iteK (fun z=>nomatch z) ?_⟩
      refine ⟨_,rfl,z1,fun l2 hl2=>?_⟩
      exact q _ l2 [t] (S2.trans (same_upd hl2)) upd_same (TupsAt.one (same_upd hl2 _ _ ht) ho)
def spRd (C:Addr):Sp:=fun vs H Q E=>∃ z:Str,vs=[.str z]/\z.length<=9000/\match readS z with
 | some sts=>∀ (H':Hp) (r:Addr) (ts:List Addr),Same H H'->H' r=some (.tup (ts.map V.ref))->TupsAt H' ts sts->Q (.ref r) H'
 | none=>∀ H',Same H H'->E (.ref C) none H'
theorem scRd:FnScope ["text","steps","item"] ["text"] (defScope sRd):=⟨rfl,rfl,rfl,by decide +kernel,rfl,by decide +kernel,by decide +kernel⟩
theorem str_at {ws:List Str} {i:Nat} {y:V} (hi:(ws.map V.str)[i]?=some y):∃ z,ws[i]?=some z/\y=.str z:=by
 rw [List.getElem?_map] at hi
 cases e:ws[i]? with
 | none=>rw [e] at hi;cases hi
 | some t=>rw [e] at hi;exact ⟨t,rfl,(Option.some.inj hi).symm⟩
theorem ok_rd {f gI C:Addr} {fd dI:FuncData} (F:Fun K "slips_read" "slips_read" sRd f fd) (DI:Dfn K mg "item_read" sItem gI dI ["item"]) (GI:FnOk P w K mg base (CXv P w) 6 gI dI ["item"] (spItem C))
  (mC:mg "NoSlips" = some (.ref C)) (xC:VEx K C) (mlen:mg "len" = none) (mtup:mg "tuple" = none) {ts:Tok} (mS:mg "MOST_STEPS" = some (.int 80 ts)):FnOk P w K mg base (CXv P w) 7 f fd ["text"] (spRd C):=by
 refine Fun.okX F scRd (fun vs H Q E h=>?_) (fun cdv A outer s H vs Q E hr h=>?_)
 ·obtain ⟨z,rfl,_⟩:=h
  rfl
 ·obtain ⟨z,rfl,hz,q⟩:=h
  refine ⟨_,PSs.fly (pss_cons (ps_if (pt_cmpR op_eq (pv 0) pe_str (nomark _)) (pss_one (ps_ret (pe_tup pa_nil))) pss_nil)
   (pss_cons (ps_set (i:=1) scRd.nd rfl (Or.inl rfl) (pe_lst pa_nil))
   (pss_cons (ps_for passF rfl (pi_list (pe_bm PySem.F.plainAttrs_str PySem.F.slot_str_split PySem.F.type_str_split mt_split (pv 0) (pa_cons pe_str pa_nil))) (pg_name (i:=2) scRd.nd rfl (Or.inl rfl))
    (pss_one (ps_expr (pe_bm PySem.F.plainAttrs_list PySem.F.slot_list_extend PySem.F.type_list_extend mt_extend (pv 1) (pa_cons (pe_call GI hr (by rfl) DI.at_ DI.fn.kp DI.bn .nil passesF (pa_cons (pv 2) pa_nil)) pa_nil)))))
   (pss_cons (ps_if (pt_cmpR op_gt (pe_callB call_len_seq (by rfl) mlen PySem.boot_len (pa_cons (pv 1) pa_nil)) (pe_glob (v:=.int 80) (by rfl) mS ⟨_,rfl⟩) (nomark _)) (pss_one (ps_raise rfl (by rfl) mC xC landsF pe_str)) pss_nil)
   (pss_one (ps_ret (pe_callTy call_tuple_of (by rfl) mtup boot_tuple (pa_cons (pv 1) pa_nil)))))))),?_⟩
  have z1:(1:Nat)<=sizeLine:=few (by omega)
  refine ⟨_,rfl,rfl,_,rfl,?_⟩
  refine ite2 (fun h=>?_) (fun h=>?_)
  ·have e:=of_decide_eq_true h
   injection e with e
   have ed:readS z=some []:=by unfold readS;rw [if_pos e]
   rw [ed] at q
   exact ⟨Nat.zero_le _,fun p hp=>q _ p [] (same_upd hp) upd_same TupsAt.nil⟩
  have hne:¬ z=Str.ofString "" := fun e=>h (decide_eq_true (by rw [e]))
  have ed:readS z=(readAll (Txt.split z (Str.ofString ", "))).bind fun sts=>if 80 < sts.length then none else some sts:=by unfold readS;rw [if_neg hne]
  have ss:=split_small (z:=z) (y:=Str.ofString ", ") (by decide +kernel)
  refine ⟨Nat.zero_le _,fun l1 hl1=>?_⟩
  refine ⟨_,rfl,rfl,z,Str.ofString ", ",rfl,rfl,(by decide +kernel),(by omega),fun p hp=>?_⟩
  generalize hsp:Txt.split z (Str.ofString ", ")=ws at ed ss
  obtain ⟨npl,hpH⟩:=freeNe hp
  have S0:Same H (upd (upd H l1 (.lst [])) p (.lst (ws.map V.str))):=(same_upd hl1).trans (same_upd hp)
  have nn:readAll ws=none->∀ H',Same H H'->E (.ref C) none H':=fun e H' S=>by
   rw [ed,e] at q
   exact q H' S
  refine ⟨p,rfl,⟨_,SqL.of upd_same⟩,for_list (K:=K) (a:=p) (xs:=ws.map V.str) (fun i σ H2=>∃ (ts:List Addr) (sts:List Sk) (v2:Option V),σ=[some (.str z),some (.ref l1),v2] ∧
   H2 l1=some (.lst (ts.map V.ref))/\H2 p=some (.lst (ws.map V.str))/\Same H H2/\TupsAt H2 ts sts/\readAll (ws.take i)=some sts/\sts.length<=80 * i)
   ⟨[],[],none,rfl,by rw [upd_ne (Ne.symm npl)];exact upd_same,upd_same,S0,TupsAt.nil,rfl,Nat.le_refl _⟩ (fun i σ H2 _ ⟨_,_,_,_,_,h2,_⟩=>SqL.of h2) ?_ ?_⟩
  ·rintro i y σ H2 hi ⟨ts,sts,v2,rfl,h1,h2,S,hA,hra,hsl⟩
   obtain ⟨w1,hwi,rfl⟩:=str_at hi
   have hil:i < ws.length:=(List.getElem?_eq_some_iff.mp hwi).1
   have hwl:=ss.2 w1 (List.mem_of_getElem? hwi)
   have rt:=readAll_turn hwi hra
   refine ⟨_,rfl,.inl ⟨rfl,_,SqL.of h1⟩,_,rfl,w1,rfl,by omega,?_⟩
   cases hi2:itemR w1 with
   | none=>
    rw [hi2] at rt
    intro H' S'
    exact nn (readAll_stop rt) _ (S.trans S')
   | some a=>
    rw [hi2] at rt
    have hal:=(item_ok hi2).1
    intro H' b tb S' hb hB
    have k1:=S' _ _ h1
    have hzz:(sizeLine:Nat)=16777216:=szl
    refine ⟨l1,b,_,_,rfl,rfl,k1,hb,(by rw [List.length_map,List.length_map,hA.len,hB.len,hzz];have:=ss.1;omega),?_⟩
    refine ⟨ts++tb,sts++a,_,rfl,?_,?_,same_to (S.trans S') hl1,((hA.mono S').app hB).set k1,rt,?_⟩
    ·rw [upd_same,List.map_append]
    ·rw [upd_ne npl];exact S' _ _ h2
    ·rw [List.length_append];omega
  ·rintro σ H2 ⟨ts,sts,v2,rfl,h1,h2,S,hA,hra,hsl⟩
   rw [List.length_map,List.take_length] at hra
   rw [ed,hra] at q
   have q':match (if 80 < sts.length then none else some sts:Option (List Sk)) with
    | some sts=>∀ (H':Hp) (r:Addr) (ts:List Addr),Same H H'->H' r=some (.tup (ts.map V.ref))->TupsAt H' ts sts->Q (.ref r) H'
    | none=>∀ H',Same H H'->E (.ref C) none H':=q
   refine ⟨_,rfl,l1,_,rfl,.inl (SqL.of h1),_,_,rfl,rfl,_,rfl,?_⟩
   rw [List.length_map,hA.len]
   refine ite2 (fun h8=>?_) (fun h8=>?_)
   ·have h9:=of_decide_eq_true h8
    rw [if_pos (by omega)] at q'
    exact ⟨z1,q' _ S⟩
   ·have h9:¬ ((80:Int) < (sts.length:Int)):=fun c=>h8 (decide_eq_true c)
    rw [if_neg (by omega)] at q'
    refine ⟨_,rfl,l1,_,rfl,.inl ⟨SqL.of h1,fun r hr'=>?_⟩⟩
    exact q' _ r ts (S.trans (same_upd hr')) upd_same (hA.mono (same_upd hr'))
def spSkF (K:PySem.W.Frag):Sp:=fun vs H Q _=>∃ (p:Addr) (es:List Str) (d m:Nat),vs=[.ref p,.int (d:Nat),.int (m:Nat)]/\SqT K H p (es.map V.str)/\1<=m/\Q (.bl (skipB es d m)) H
theorem scSkF:FnScope ["elder","done","many"] ["elder","done","many"] (defScope sSkF):=⟨rfl,rfl,rfl,by decide +kernel,rfl,by decide +kernel,by decide +kernel⟩
theorem ok_skf {f:Addr} {fd:FuncData} (F:Fun K "skip_fits" "skip_fits" sSkF f fd) (mlen:mg "len" = none):FnOk P w K mg base CX0 1 f fd ["elder","done","many"] (spSkF K):=by
 refine Fun.okR F scSkF (fun vs H Q E h=>?_) (fun cdv A outer s H vs Q Q2 E hr h hq=>?_)
 ·obtain ⟨p,es,d,m,rfl,_⟩:=h
  rfl
 ·obtain ⟨p,es,d,m,rfl,hp,hm,q⟩:=h
  refine ⟨_,pss_cons (ps_if (pw_or (pt_cmpR op_lt (pv 1) pe_int (nomark _)) (pw_or1 (pt_cmpR op_gt (pe_op op_add (pv 1) (pv 2)) (pe_callB call_len_seq (by rfl) mlen PySem.boot_len (pa_cons (pv 0) pa_nil)) (nomark _)))).pt (pss_one (ps_ret pe_bl)) pss_nil)
   (pss_one (ps_ret (pe_cmpR op_eq (pe_ix ix_tup (pv 0) (pe_op op_sub (pe_op op_add (pv 1) (pv 2)) pe_int) (fun _ _=>rfl)) (pe_ix ix_tup (pv 0) (pe_op op_sub (pv 1) pe_int) (fun _ _=>rfl)) (nomark _)))),?_⟩
  have go:∀ b,skipB es d m=b->Q2 (.bl b) H:=fun b e=>hq _ _ (Rst.same (Same.refl H) (by rw [<-e];exact q))
  have hlen:(es.map V.str).length=es.length:=List.length_map ..
  refine ⟨_,rfl,_,_,rfl,rfl,_,rfl,?_⟩
  refine ite2 (fun h=>iteT (go _ ?_)) (fun h=>?_)
  ·have:=of_decide_eq_true h
   unfold skipB
   rw [decide_eq_false (by omega),Bool.false_and]
  have h1:¬ ((d:Int) < 1):=fun c=>h (decide_eq_true c)
  refine ⟨_,rfl,_,rfl,_,_,rfl,rfl,_,rfl,p,_,rfl,.inr hp,_,_,rfl,rfl,_,rfl,?_⟩
  rw [hlen]
  refine ite2 (fun h2=>go _ ?_) (fun h2=>?_)
  ·have:=of_decide_eq_true h2
   unfold skipB
   rw [decide_eq_false (by omega),Bool.false_and]
  have h3:¬ ((es.length:Int) < (d:Int)+(m:Int)):=fun c=>h2 (decide_eq_true c)
  have e1:(d:Int)+(m:Int) - 1=((d+m - 1:Nat):Int):=by omega
  have e2:(d:Int) - 1=((d - 1:Nat):Int):=by omega
  refine ⟨_,rfl,_,rfl,_,rfl,_,_,rfl,rfl,_,_,rfl,rfl,p,_,_,_,rfl,rfl,hp,(by rw [e1];exact at_w (by omega)),_,rfl,_,rfl,_,_,rfl,rfl,p,_,_,_,rfl,rfl,hp,(by rw [e2];exact at_w (by omega)),rfl,go _ ?_⟩
  unfold skipB
  rw [decide_eq_true (by omega),Bool.true_and,str_dec,gt_of (show d - 1 < es.length by omega),some_dec (by omega)]
def spFits (K:PySem.W.Frag):Sp:=fun vs H Q _=>∃ (p t:Addr) (es:List Str) (d:Nat) (last:Option Str) (st:Sk),vs=[.ref p,.int (d:Nat),optS last,.ref t]/\SqT K H p (es.map V.str)/\SqT K H t (stepV st)/\okS st/\Q (.bl (fitsB es d last st)) H
theorem scFits:FnScope ["elder","done","last","step","kind"] ["elder","done","last","step"] (defScope sFits):=⟨rfl,rfl,rfl,by decide +kernel,rfl,by decide +kernel,by decide +kernel⟩
theorem ok_fits {f g:Addr} {fd gd:FuncData} (F:Fun K "step_fits" "step_fits" sFits f fd) (D:Dfn K mg "skip_fits" sSkF g gd ["elder","done","many"]) (mlen:mg "len" = none):FnOk P w K mg base CX0 2 f fd ["elder","done","last","step"] (spFits K):=by
 have G:FnOk P w K mg base CX0 1 g gd ["elder","done","many"] (spSkF K):=ok_skf D.fn mlen
 refine Fun.okR F scFits (fun vs H Q E h=>?_) (fun cdv A outer s H vs Q Q2 E hr h hq=>?_)
 ·obtain ⟨p,t,es,d,last,st,rfl,_⟩:=h
  rfl
 ·obtain ⟨p,t,es,d,last,st,rfl,hp,ht,hok,q⟩:=h
  refine ⟨_,pss_cons (ps_set (i:=4) scFits.nd rfl (Or.inl rfl) (pe_ix ix_tup (pv 3) pe_int (fun _ _=>rfl)))
   (pss_cons (ps_if (pt_cmpR op_eq (pv 4) pe_str (nomark _)) (pss_one (ps_ret pe_bl)) pss_nil)
   (pss_cons (ps_if (pt_cmpR op_eq (pv 4) pe_str (nomark _)) (pss_one (ps_ret (pe_cmpR op_notN (pv 2) pe_non (nomark _)))) pss_nil)
   (pss_cons (ps_if (pt_cmpR op_eq (pv 4) pe_str (nomark _)) (pss_one (ps_ret (pe_and (pe_cmpR op_lt (pe_op op_add (pv 1) pe_int) (pe_callB call_len_seq (by rfl) mlen PySem.boot_len (pa_cons (pv 0) pa_nil)) (nomark _)) (pe_one (pe_cmpR op_ne (pe_ix ix_tup (pv 0) (pv 1) (fun _ _=>rfl)) (pe_ix ix_tup (pv 0) (pe_op op_add (pv 1) pe_int) (fun _ _=>rfl)) (nomark _)))))) pss_nil)
   (pss_cons (ps_if (pt_cmpR op_eq (pv 4) pe_str (nomark _)) (pss_one (ps_ret (pe_call G hr (by rfl) D.at_ D.fn.kp D.bn .nil pass0 (pa_cons (pv 0) (pa_cons (pv 1) (pa_cons (pe_ix ix_tup (pv 3) pe_int (fun _ _=>rfl)) pa_nil)))))) pss_nil)
   (pss_cons (ps_if (pt_cmpR op_eq (pv 4) pe_str (nomark _)) (pss_one (ps_ret (pe_and (pe_cmpR op_lt (pv 1) (pe_callB call_len_seq (by rfl) mlen PySem.boot_len (pa_cons (pv 0) pa_nil)) (nomark _)) (pe_one (pe_cmpR op_ne (pe_ix ix_tup (pv 0) (pv 1) (fun _ _=>rfl)) (pe_ix ix_tup (pv 3) pe_int (fun _ _=>rfl)) (nomark _)))))) pss_nil)
   (pss_one (ps_ret (pe_cmpR op_lt (pv 1) (pe_callB call_len_seq (by rfl) mlen PySem.boot_len (pa_cons (pv 0) pa_nil)) (nomark _))))))))),?_⟩
  have go:∀ b,fitsB es d last st=b->Q2 (.bl b) H:=fun b e=>hq _ _ (Rst.same (Same.refl H) (by rw [<-e];exact q))
  have hlen:(es.map V.str).length=es.length:=List.length_map ..
  have dl:decide (((d:Nat):Int) < ((es.map V.str).length:Int))=decide (d < es.length):=by rw [hlen];exact decide_eq_decide.mpr (by omega)
  have dl1:decide (((d:Nat):Int)+1 < ((es.map V.str).length:Int))=decide (d+1 < es.length):=by rw [hlen];exact decide_eq_decide.mpr (by omega)
  cases st with
  | add z=>
   refine ⟨_,rfl,t,_,_,_,rfl,rfl,ht,rfl,?_⟩
   exact ⟨_,rfl,rfl,_,rfl,iteY rfl (go _ rfl)⟩
  | twice=>
   refine ⟨_,rfl,t,_,_,_,rfl,rfl,ht,rfl,?_⟩
   refine ⟨_,rfl,rfl,_,rfl,iteK (by decide +kernel) ?_⟩
   refine ⟨_,rfl,rfl,_,rfl,iteY rfl ⟨_,rfl,rfl,go _ ?_⟩⟩
   cases last with
   | none=>rfl
   | some l=>rfl
  | swap=>
   refine ⟨_,rfl,t,_,_,_,rfl,rfl,ht,rfl,?_⟩
   refine ⟨_,rfl,rfl,_,rfl,iteK (by decide +kernel) ?_⟩
   refine ⟨_,rfl,rfl,_,rfl,iteK (by decide +kernel) ?_⟩
   refine ⟨_,rfl,rfl,_,rfl,iteY rfl ?_⟩
   refine ⟨_,rfl,_,_,rfl,rfl,_,rfl,p,_,rfl,.inr hp,_,_,rfl,rfl,_,rfl,?_⟩
   rw [dl1]
   refine ite2 (fun h=>?_) (fun h=>?_)
   ·have hd:=of_decide_eq_true h
    have e1:((d:Nat):Int)+1=((d+1:Nat):Int):=by omega
    refine ⟨_,rfl,_,rfl,p,_,_,_,rfl,rfl,hp,at_w (by omega),_,rfl,_,rfl,_,_,rfl,rfl,p,_,_,_,rfl,rfl,hp,(by rw [e1];exact at_w hd),rfl,go _ ?_⟩
    show (decide (d+1 < es.length) && !decide (es[d]?=es[d+1]?))=_
    rw [h,Bool.true_and,gt_of hd,some_dec (by omega),str_dec]
   ·refine go _ ?_
    show (decide (d+1 < es.length) && !decide (es[d]?=es[d+1]?))=_
    rw [decide_eq_false (fun c=>h (decide_eq_true c)),Bool.false_and]
  | skip m=>
   refine ⟨_,rfl,t,_,_,_,rfl,rfl,ht,rfl,?_⟩
   refine ⟨_,rfl,rfl,_,rfl,iteK (by decide +kernel) ?_⟩
   refine ⟨_,rfl,rfl,_,rfl,iteK (by decide +kernel) ?_⟩
   refine ⟨_,rfl,rfl,_,rfl,iteK (by decide +kernel) ?_⟩
   refine ⟨_,rfl,rfl,_,rfl,iteY rfl ?_⟩
   exact ⟨_,rfl,_,rfl,_,rfl,t,_,_,_,rfl,rfl,ht,rfl,p,es,d,m,rfl,hp,hok.1,go _ rfl⟩
  | turn z=>
   refine ⟨_,rfl,t,_,_,_,rfl,rfl,ht,rfl,?_⟩
   refine ⟨_,rfl,rfl,_,rfl,iteK (by decide +kernel) ?_⟩
   refine ⟨_,rfl,rfl,_,rfl,iteK (by decide +kernel) ?_⟩
   refine ⟨_,rfl,rfl,_,rfl,iteK (by decide +kernel) ?_⟩
   refine ⟨_,rfl,rfl,_,rfl,iteK (by decide +kernel) ?_⟩
   refine ⟨_,rfl,rfl,_,rfl,iteY rfl ?_⟩
   refine ⟨_,rfl,_,rfl,p,_,rfl,.inr hp,_,_,rfl,rfl,_,rfl,?_⟩
   rw [dl]
   refine ite2 (fun h=>?_) (fun h=>?_)
   ·have hd:=of_decide_eq_true h
    refine ⟨_,rfl,_,rfl,p,_,_,_,rfl,rfl,hp,at_w hd,_,rfl,t,_,_,_,rfl,rfl,ht,rfl,rfl,go _ ?_⟩
    show (decide (d < es.length) && !decide (es[d]?=some z))=_
    rw [h,Bool.true_and,some_dec hd,str_dec]
   ·refine go _ ?_
    show (decide (d < es.length) && !decide (es[d]?=some z))=_
    rw [decide_eq_false (fun c=>h (decide_eq_true c)),Bool.false_and]
  | keep=>
   refine ⟨_,rfl,t,_,_,_,rfl,rfl,ht,rfl,?_⟩
   refine ⟨_,rfl,rfl,_,rfl,iteK (by decide +kernel) ?_⟩
   refine ⟨_,rfl,rfl,_,rfl,iteK (by decide +kernel) ?_⟩
   refine ⟨_,rfl,rfl,_,rfl,iteK (by decide +kernel) ?_⟩
   refine ⟨_,rfl,rfl,_,rfl,iteK (by decide +kernel) ?_⟩
   refine ⟨_,rfl,rfl,_,rfl,iteK (by decide +kernel) ?_⟩
   exact ⟨_,rfl,_,rfl,p,_,rfl,.inr hp,_,_,rfl,rfl,go _ dl.symm⟩
  | lose=>
   refine ⟨_,rfl,t,_,_,_,rfl,rfl,ht,rfl,?_⟩
   refine ⟨_,rfl,rfl,_,rfl,iteK (by decide +kernel) ?_⟩
   refine ⟨_,rfl,rfl,_,rfl,iteK (by decide +kernel) ?_⟩
   refine ⟨_,rfl,rfl,_,rfl,iteK (by decide +kernel) ?_⟩
   refine ⟨_,rfl,rfl,_,rfl,iteK (by decide +kernel) ?_⟩
   refine ⟨_,rfl,rfl,_,rfl,iteK (by decide +kernel) ?_⟩
   exact ⟨_,rfl,_,rfl,p,_,rfl,.inr hp,_,_,rfl,rfl,go _ dl.symm⟩
def spWd (K:PySem.W.Frag):Sp:=fun vs H Q _=>∃ (t:Addr) (st:Sk),vs=[.ref t]/\SqT K H t (stepV st)/\Q (.int (wd st:Nat)) H
theorem scWd:FnScope ["step","kind"] ["step"] (defScope sWd):=⟨rfl,rfl,rfl,by decide +kernel,rfl,by decide +kernel,by decide +kernel⟩
theorem ok_wd {f:Addr} {fd:FuncData} (F:Fun K "words_done" "words_done" sWd f fd):FnOk P w K mg base CX0 1 f fd ["step"] (spWd K):=by
 refine Fun.okR F scWd (fun vs H Q E h=>?_) (fun cdv A outer s H vs Q Q2 E hr h hq=>?_)
 ·obtain ⟨t,st,rfl,_⟩:=h
  rfl
 ·obtain ⟨t,st,rfl,ht,q⟩:=h
  refine ⟨_,pss_cons (ps_set (i:=1) scWd.nd rfl (Or.inl rfl) (pe_ix ix_tup (pv 0) pe_int (fun _ _=>rfl)))
   (pss_cons (ps_if (pw_or (pt_cmpR op_eq (pv 1) pe_str (nomark _)) (pw_or1 (pt_cmpR op_eq (pv 1) pe_str (nomark _)))).pt (pss_one (ps_ret pe_int)) pss_nil)
   (pss_cons (ps_if (pt_cmpR op_eq (pv 1) pe_str (nomark _)) (pss_one (ps_ret pe_int)) pss_nil)
   (pss_cons (ps_if (pt_cmpR op_eq (pv 1) pe_str (nomark _)) (pss_one (ps_ret (pe_ix ix_tup (pv 0) pe_int (fun _ _=>rfl)))) pss_nil)
   (pss_one (ps_ret pe_int))))),?_⟩
  have go:=hq _ _ (Rst.same (Same.refl H) q)
  cases st with
  | add z=>exact ⟨_,rfl,t,_,_,_,rfl,rfl,ht,rfl,_,rfl,rfl,_,rfl,iteY rfl (iteT go)⟩
  | twice=>exact ⟨_,rfl,t,_,_,_,rfl,rfl,ht,rfl,_,rfl,rfl,_,rfl,iteK (by decide +kernel) ⟨_,rfl,rfl,_,rfl,iteY rfl go⟩⟩
  | swap=>exact ⟨_,rfl,t,_,_,_,rfl,rfl,ht,rfl,_,rfl,rfl,_,rfl,iteK (by decide +kernel) ⟨_,rfl,rfl,_,rfl,iteK (by decide +kernel) ⟨_,rfl,rfl,_,rfl,iteY rfl go⟩⟩⟩
  | skip m=>exact ⟨_,rfl,t,_,_,_,rfl,rfl,ht,rfl,_,rfl,rfl,_,rfl,iteK (by decide +kernel) ⟨_,rfl,rfl,_,rfl,iteK (by decide +kernel) ⟨_,rfl,rfl,_,rfl,iteK (by decide +kernel) ⟨_,rfl,rfl,_,rfl,iteY rfl ⟨_,rfl,t,_,_,_,rfl,rfl,ht,rfl,go⟩⟩⟩⟩⟩
  | turn z=>exact ⟨_,rfl,t,_,_,_,rfl,rfl,ht,rfl,_,rfl,rfl,_,rfl,iteK (by decide +kernel) ⟨_,rfl,rfl,_,rfl,iteK (by decide +kernel) ⟨_,rfl,rfl,_,rfl,iteK (by decide +kernel) ⟨_,rfl,rfl,_,rfl,iteK (by decide +kernel) go⟩⟩⟩⟩
  | keep=>exact ⟨_,rfl,t,_,_,_,rfl,rfl,ht,rfl,_,rfl,rfl,_,rfl,iteK (by decide +kernel) ⟨_,rfl,rfl,_,rfl,iteK (by decide +kernel) ⟨_,rfl,rfl,_,rfl,iteK (by decide +kernel) ⟨_,rfl,rfl,_,rfl,iteK (by decide +kernel) go⟩⟩⟩⟩
  | lose=>exact ⟨_,rfl,t,_,_,_,rfl,rfl,ht,rfl,_,rfl,rfl,_,rfl,iteK (by decide +kernel) ⟨_,rfl,rfl,_,rfl,iteK (by decide +kernel) ⟨_,rfl,rfl,_,rfl,iteK (by decide +kernel) ⟨_,rfl,rfl,_,rfl,iteK (by decide +kernel) go⟩⟩⟩⟩
def spWw (K:PySem.W.Frag):Sp:=fun vs H Q _=>∃ (p t:Addr) (es:List Str) (d:Nat) (last:Option Str) (st:Sk),vs=[.ref p,.int (d:Nat),optS last,.ref t]/\SqT K H p (es.map V.str)/\SqT K H t (stepV st)/\fitsB es d last st=true/\∀ r,H r=none->Q (.ref r) (upd H r (.tup ((ww es d last st).map V.str)))
theorem scWw:FnScope ["elder","done","last","step","kind"] ["elder","done","last","step"] (defScope sWw):=⟨rfl,rfl,rfl,by decide +kernel,rfl,by decide +kernel,by decide +kernel⟩
theorem ok_ww {f:Addr} {fd:FuncData} (F:Fun K "words_written" "words_written" sWw f fd):FnOk P w K mg base CX0 1 f fd ["elder","done","last","step"] (spWw K):=by
 refine Fun.okR F scWw (fun vs H Q E h=>?_) (fun cdv A outer s H vs Q Q2 E hr h hq=>?_)
 ·obtain ⟨p,t,es,d,last,st,rfl,_⟩:=h
  rfl
 ·obtain ⟨p,t,es,d,last,st,rfl,hp,ht,hf,q⟩:=h
  refine ⟨_,pss_cons (ps_set (i:=4) scWw.nd rfl (Or.inl rfl) (pe_ix ix_tup (pv 3) pe_int (fun _ _=>rfl)))
   (pss_cons (ps_if (pw_or (pt_cmpR op_eq (pv 4) pe_str (nomark _)) (pw_or1 (pt_cmpR op_eq (pv 4) pe_str (nomark _)))).pt (pss_one (ps_ret (pe_tup pa_nil))) pss_nil)
   (pss_cons (ps_if (pw_or (pt_cmpR op_eq (pv 4) pe_str (nomark _)) (pw_or1 (pt_cmpR op_eq (pv 4) pe_str (nomark _)))).pt (pss_one (ps_ret (pe_tup (pa_cons (pe_ix ix_tup (pv 3) pe_int (fun _ _=>rfl)) pa_nil)))) pss_nil)
   (pss_cons (ps_if (pt_cmpR op_eq (pv 4) pe_str (nomark _)) (pss_one (ps_ret (pe_tup (pa_cons (pv 2) pa_nil)))) pss_nil)
   (pss_cons (ps_if (pt_cmpR op_eq (pv 4) pe_str (nomark _)) (pss_one (ps_ret (pe_tup (pa_cons (pe_ix ix_tup (pv 0) (pe_op op_add (pv 1) pe_int) (fun _ _=>rfl)) (pa_cons (pe_ix ix_tup (pv 0) (pv 1) (fun _ _=>rfl)) pa_nil))))) pss_nil)
   (pss_one (ps_ret (pe_tup (pa_cons (pe_ix ix_tup (pv 0) (pv 1) (fun _ _=>rfl)) pa_nil)))))))),?_⟩
  have go:∀ r,H r=none->Q2 (.ref r) (upd H r (.tup ((ww es d last st).map V.str))):=fun r hr'=>hq _ _ (Rst.one (same_upd hr') hr' upd_same trivial (q r hr'))
  have z1:(1:Nat)<=sizeLine:=few (by omega)
  have z2:(2:Nat)<=sizeLine:=few (by omega)
  cases st with
  | lose=>exact ⟨_,rfl,t,_,_,_,rfl,rfl,ht,rfl,_,rfl,rfl,_,rfl,iteY rfl (iteT ⟨Nat.zero_le _,go⟩)⟩
  | skip m=>exact ⟨_,rfl,t,_,_,_,rfl,rfl,ht,rfl,_,rfl,rfl,_,rfl,iteK (by decide +kernel) ⟨_,rfl,rfl,_,rfl,iteY rfl ⟨Nat.zero_le _,go⟩⟩⟩
  | turn z=>exact ⟨_,rfl,t,_,_,_,rfl,rfl,ht,rfl,_,rfl,rfl,_,rfl,iteK (by decide +kernel) ⟨_,rfl,rfl,_,rfl,iteK (by decide +kernel) ⟨_,rfl,rfl,_,rfl,iteY rfl (iteT ⟨_,rfl,t,_,_,_,rfl,rfl,ht,rfl,z1,go⟩)⟩⟩⟩
  | add z=>exact ⟨_,rfl,t,_,_,_,rfl,rfl,ht,rfl,_,rfl,rfl,_,rfl,iteK (by decide +kernel) ⟨_,rfl,rfl,_,rfl,iteK (by decide +kernel) ⟨_,rfl,rfl,_,rfl,iteK (by decide +kernel) ⟨_,rfl,rfl,_,rfl,iteY rfl ⟨_,rfl,t,_,_,_,rfl,rfl,ht,rfl,z1,go⟩⟩⟩⟩⟩
  | twice=>
   cases last with
   | none=>exact absurd hf Bool.false_ne_true
   | some l=>exact ⟨_,rfl,t,_,_,_,rfl,rfl,ht,rfl,_,rfl,rfl,_,rfl,iteK (by decide +kernel) ⟨_,rfl,rfl,_,rfl,iteK (by decide +kernel) ⟨_,rfl,rfl,_,rfl,iteK (by decide +kernel) ⟨_,rfl,rfl,_,rfl,iteK (by decide +kernel) ⟨_,rfl,rfl,_,rfl,iteY rfl ⟨_,rfl,z1,go⟩⟩⟩⟩⟩⟩
  | swap=>
   have hd:d+1 < es.length:=of_decide_eq_true (Bool.and_eq_true_iff.mp hf).1
   have e1:((d:Nat):Int)+1=((d+1:Nat):Int):=by omega
   exact ⟨_,rfl,t,_,_,_,rfl,rfl,ht,rfl,_,rfl,rfl,_,rfl,iteK (by decide +kernel) ⟨_,rfl,rfl,_,rfl,iteK (by decide +kernel) ⟨_,rfl,rfl,_,rfl,iteK (by decide +kernel) ⟨_,rfl,rfl,_,rfl,iteK (by decide +kernel) ⟨_,rfl,rfl,_,rfl,iteK (by decide +kernel) ⟨_,rfl,rfl,_,rfl,iteY rfl
    ⟨_,rfl,_,rfl,_,_,rfl,rfl,p,_,_,_,rfl,rfl,hp,(by rw [e1];exact at_w hd),_,rfl,_,rfl,p,_,_,_,rfl,rfl,hp,at_w (by omega),z2,go⟩⟩⟩⟩⟩⟩⟩
  | keep=>
   have hd:d < es.length:=of_decide_eq_true hf
   exact ⟨_,rfl,t,_,_,_,rfl,rfl,ht,rfl,_,rfl,rfl,_,rfl,iteK (by decide +kernel) ⟨_,rfl,rfl,_,rfl,iteK (by decide +kernel) ⟨_,rfl,rfl,_,rfl,iteK (by decide +kernel) ⟨_,rfl,rfl,_,rfl,iteK (by decide +kernel) ⟨_,rfl,rfl,_,rfl,iteK (by decide +kernel) ⟨_,rfl,rfl,_,rfl,iteK (by decide +kernel)
    ⟨_,rfl,_,rfl,p,_,_,_,rfl,rfl,hp,at_w hd,z1,go⟩⟩⟩⟩⟩⟩⟩
def AfterTo (H:Hp) (Q:VK) (d:Nat) (ws:List Str):Prop:=∀ t r,H t=none->H r=none->r ≠ t->Q (.ref r) (upd (upd H t (.tup (ws.map V.str))) r (.tup [.int (d:Nat),.ref t]))
def spAfter (K:PySem.W.Frag) (C:Addr):Sp:=fun vs H Q E=>∃ (p t:Addr) (es:List Str) (d:Nat) (last:Option Str) (st:Sk),vs=[.ref p,.int (d:Nat),optS last,.ref t]/\SqT K H p (es.map V.str)/\SqT K H t (stepV st)/\okS st ∧
 match after es d last st with
 | some (d',ws)=>AfterTo H Q d' ws
 | none=>E (.ref C) none H
theorem scAfter:FnScope ["elder","done","last","step"] ["elder","done","last","step"] (defScope sAfter):=⟨rfl,rfl,rfl,by decide +kernel,rfl,by decide +kernel,by decide +kernel⟩
theorem free_ne {H:Hp} {p r:Addr} {o:HO} (h:upd H p o r=none):r ≠ p/\H r=none:=by
 have n:r ≠ p:=fun e=>by rw [e,upd_same] at h;cases h
 exact ⟨n,by rw [upd_ne n] at h;exact h⟩
theorem rst_two {H H':Hp} {Q:Hp->Prop} {t r:Addr} {o1 o2:HO} (S:Same H H') (ht:H' t=none) (hr:upd H' t o1 r=none) (n1:newO o1) (n2:newO o2) (q:Q (upd (upd H t o1) r o2)):Rst H (upd (upd H' t o1) r o2) Q:=by
 have ht0:H t=none:=S.free ht
 obtain ⟨n,hr1⟩:=free_ne hr
 have s1:Same (upd H t o1) (upd H' t o1):=fun a o e=>by
  by_cases ha:a=t
  ·subst ha;rw [upd_same] at e ⊢;exact e
  ·rw [upd_ne ha] at e ⊢;exact S a o e
 have hr0:upd H t o1 r=none:=by rw [upd_ne n];exact S.free hr1
 exact Rst.more (same_upd ht0) (fun a o e=>by
  by_cases ha:a=t
  ·subst ha;rw [upd_same] at e;cases e;exact .inr n1
  ·rw [upd_ne ha] at e;exact .inl e) (Rst.one (s1.trans (same_upd hr)) hr0 upd_same n2 q)
theorem ok_after {f gF gS gD gW C:Addr} {fd dF dS dD dW:FuncData} (F:Fun K "step_after" "step_after" sAfter f fd) (DF:Dfn K mg "step_fits" sFits gF dF ["elder","done","last","step"]) (DS:Dfn K mg "skip_fits" sSkF gS dS ["elder","done","many"]) (DD:Dfn K mg "words_done" sWd gD dD ["step"]) (DW:Dfn K mg "words_written" sWw gW dW ["elder","done","last","step"])
  (mC:mg "NoSlips" = some (.ref C)) (xC:VEx K C) (mlen:mg "len" = none):FnOk P w K mg base (CXv P w) 3 f fd ["elder","done","last","step"] (spAfter K C):=by
 have GF:FnOk P w K mg base CX0 2 gF dF ["elder","done","last","step"] (spFits K):=ok_fits DF.fn DS mlen
 have GD:FnOk P w K mg base CX0 2 gD dD ["step"] (spWd K):=(ok_wd DD.fn).mono (by decide)
 have GW:FnOk P w K mg base CX0 2 gW dW ["elder","done","last","step"] (spWw K):=(ok_ww DW.fn).mono (by decide)
 refine Fun.okXR F scAfter (fun vs H Q E h=>?_) (fun cdv A outer s H vs Q Q2 E E2 hr h hq hE=>?_)
 ·obtain ⟨p,t,es,d,last,st,rfl,_⟩:=h
  rfl
 ·obtain ⟨p,t,es,d,last,st,rfl,hp,ht,hok,q⟩:=h
  refine ⟨_,pss_cons (ps_if (pt_not (pt_val (pe_call GF hr (by rfl) DF.at_ DF.fn.kp DF.bn .nil pass0 (pa_cons (pv 0) (pa_cons (pv 1) (pa_cons (pv 2) (pa_cons (pv 3) pa_nil))))))) (pss_one (ps_raise rfl (by rfl) mC xC lands_def pe_str)) pss_nil)
   (pss_one (ps_ret (pe_tup (pa_cons (pe_op op_add (pv 1) (pe_call GD hr (by rfl) DD.at_ DD.fn.kp DD.bn .nil pass0 (pa_cons (pv 3) pa_nil))) (pa_cons (pe_call GW hr (by rfl) DW.at_ DW.fn.kp DW.bn .nil pass0 (pa_cons (pv 0) (pa_cons (pv 1) (pa_cons (pv 2) (pa_cons (pv 3) pa_nil))))) pa_nil))))),?_⟩
  refine ⟨_,rfl,_,rfl,_,rfl,_,rfl,p,t,es,d,last,st,rfl,hp,ht,hok,_,rfl,?_⟩
  unfold after at q
  cases hf:fitsB es d last st with
  | false=>
   rw [hf,if_neg Bool.false_ne_true] at q
   exact iteT ⟨few (by show 1<=_;omega),hE _ _ _ (Rst.same (Same.refl H) q)⟩
  | true=>
   rw [hf,if_pos rfl] at q
   refine iteF ⟨_,rfl,_,rfl,t,st,rfl,ht,_,_,rfl,rfl,?_⟩
   refine ⟨_,rfl,_,rfl,_,rfl,_,rfl,p,t,es,d,last,st,rfl,hp,ht,hf,fun r hr1=>⟨few (by show 2<=_;omega),fun r2 hr2=>?_⟩⟩
   obtain ⟨n,hH⟩:=free_ne hr2
   have e:((d:Nat):Int)+((wd st:Nat):Int)=((d+wd st:Nat):Int):=by omega
   show Q2 (.ref r2) (upd (upd H r (.tup ((ww es d last st).map V.str))) r2 (.tup [.int (((d:Nat):Int)+((wd st:Nat):Int)),.ref r]))
   rw [e]
   exact hq _ _ (rst_two (Same.refl H) hr1 hr2 trivial trivial (q r r2 hr1 hH n))
theorem upd_mono {H H':Hp} {t:Addr} {o:HO} (S:Same H H'):Same (upd H t o) (upd H' t o):=fun a u e=>by
 by_cases ha:a=t
 ·subst ha;rw [upd_same] at e ⊢;exact e
 ·rw [upd_ne ha] at e ⊢;exact S a u e
theorem new_upd {H:Hp} {t:Addr} {o:HO} (n:newO o):∀ a u,upd H t o a=some u->H a=some u\/newO u:=fun a u e=>by
 by_cases ha:a=t
 ·subst ha;rw [upd_same] at e;cases e;exact .inr n
 ·rw [upd_ne ha] at e;exact .inl e
theorem rst_three {H H':Hp} {Q:Hp->Prop} {t p r:Addr} {o1 o2 o3:HO} (S:Same H H') (ht:H' t=none) (hp:upd H' t o1 p=none) (hr:upd (upd H' t o1) p o2 r=none) (n1:newO o1) (n2:newO o2) (n3:newO o3) (q:Q (upd (upd (upd H t o1) p o2) r o3)):Rst H (upd (upd (upd H' t o1) p o2) r o3) Q:=
 Rst.more (same_upd (S.free ht)) (new_upd n1) (rst_two (upd_mono S) hp hr n2 n3 q)
def nV (n:Nat):V:=.int (n:Nat)
def spWalk (K:PySem.W.Frag) (C:Addr):Sp:=fun vs H Q E=>∃ (p q:Addr) (es:List Str) (ts:List Addr) (sts:List Sk),vs=[.ref p,.ref q]/\SqT K H p (es.map V.str)/\SqT K H q (ts.map V.ref)/\StepsAt K H ts sts/\sts.length<=1000 ∧
 match made es sts with
 | some (cp,pl)=>∀ a b r,H a=none->H b=none->H r=none->b ≠ a->r ≠ a->r ≠ b->Q (.ref r) (upd (upd (upd H a (.tup (cp.map V.str))) b (.tup (pl.map nV))) r (.tup [.ref a,.ref b]))
 | none=>E (.ref C) none H
theorem scWalk:FnScope ["elder","steps","copy","places","done","step","last","after"] ["elder","steps"] (defScope sWalk):=⟨rfl,rfl,rfl,by decide +kernel,rfl,by decide +kernel,by decide +kernel⟩
theorem ok_walk {f gA C:Addr} {fd dA:FuncData} (F:Fun K "steps_walked" "steps_walked" sWalk f fd) (DA:Dfn K mg "step_after" sAfter gA dA ["elder","done","last","step"]) (GA:FnOk P w K mg base (CXv P w) 3 gA dA ["elder","done","last","step"] (spAfter K C))
  (mC:mg "NoSlips" = some (.ref C)) (xC:VEx K C) (mlen:mg "len" = none) (mtup:mg "tuple" = none) {tw:Tok} (mW:mg "MOST_WORDS" = some (.int 40 tw)):FnOk P w K mg base (CXv P w) 4 f fd ["elder","steps"] (spWalk K C):=by
 refine Fun.okXR F scWalk (fun vs H Q E h=>?_) (fun cdv A outer s H vs Q Q2 E E2 hr h hq hE=>?_)
 ·obtain ⟨p,q,es,ts,sts,rfl,_⟩:=h
  rfl
 ·obtain ⟨p,q0,es,ts,sts,rfl,hp,hts,hst,hsl,q⟩:=h
  refine ⟨_,PSs.fly (pss_cons (ps_set (i:=2) scWalk.nd rfl (Or.inl rfl) (pe_lst pa_nil))
   (pss_cons (ps_set (i:=3) scWalk.nd rfl (Or.inl rfl) (pe_lst pa_nil))
   (pss_cons (ps_set (i:=4) scWalk.nd rfl (Or.inl rfl) pe_int)
   (pss_cons (ps_for passF rfl (pi_tup (pv 1)) (pg_name (i:=5) scWalk.nd rfl (Or.inl rfl))
    (pss_cons (ps_mid (ps_set (i:=6) scWalk.nd rfl (Or.inl rfl) (pe_ifExp (pt_cmpR op_gt (pe_callB call_len_seq (by rfl) mlen PySem.boot_len (pa_cons (pv 2) pa_nil)) pe_int (nomark _)) (pe_ix ix_list (pv 2) (pe_un un_neg pe_int) (fun _ _=>rfl)) pe_non)))
    (pss_cons (ps_set (i:=7) scWalk.nd rfl (Or.inl rfl) (pe_call GA hr (by rfl) DA.at_ DA.fn.kp DA.bn .nil passesF (pa_cons (pv 0) (pa_cons (pv 4) (pa_cons (pv 6) (pa_cons (pv 5) pa_nil))))))
    (pss_cons (ps_expr (pe_bm PySem.F.plainAttrs_list PySem.F.slot_list_append PySem.F.type_list_append mt_append (pv 3) (pa_cons (pv 4) pa_nil)))
    (pss_cons (ps_set (i:=4) scWalk.nd rfl (Or.inl rfl) (pe_ix ix_tup (pv 7) pe_int (fun _ _=>rfl)))
    (pss_one (ps_expr (pe_bm PySem.F.plainAttrs_list PySem.F.slot_list_extend PySem.F.type_list_extend mt_extendT (pv 2) (pa_cons (pe_ix ix_tup (pv 7) pe_int (fun _ _=>rfl)) pa_nil)))))))))
   (pss_cons (ps_if (pt_cmpR op_lt (pv 4) (pe_callB call_len_seq (by rfl) mlen PySem.boot_len (pa_cons (pv 0) pa_nil)) (nomark _)) (pss_one (ps_raise rfl (by rfl) mC xC landsF pe_str)) pss_nil)
   (pss_cons (ps_if (pt_cmpR op_gt (pe_callB call_len_seq (by rfl) mlen PySem.boot_len (pa_cons (pv 2) pa_nil)) (pe_glob (v:=.int 40) (by rfl) mW ⟨_,rfl⟩) (nomark _)) (pss_one (ps_raise rfl (by rfl) mC xC landsF pe_str)) pss_nil)
   (pss_one (ps_ret (pe_tup (pa_cons (pe_callTy call_tuple_of (by rfl) mtup boot_tuple (pa_cons (pv 2) pa_nil)) (pa_cons (pe_callTy call_tuple_of (by rfl) mtup boot_tuple (pa_cons (pv 3) pa_nil)) pa_nil))))))))))),?_⟩
  have z1:(1:Nat)<=sizeLine:=few (by omega)
  refine ⟨Nat.zero_le _,fun l1 hl1=>?_⟩
  refine ⟨Nat.zero_le _,fun l2 hl2=>?_⟩
  obtain ⟨n21,hl2H⟩:=free_ne hl2
  have S0:Same H (upd (upd H l1 (.lst [])) l2 (.lst [])):=(same_upd hl1).trans (same_upd hl2)
  have nn:made es sts=none->∀ H',Same H H'->E2 (.ref C) none H':=fun e H' S=>by
   rw [e] at q
   exact hE _ _ _ (Rst.same S q)
  refine ⟨_,rfl,q0,rfl,⟨_,sameT S0 hts⟩,for_tup (K:=K) (a:=q0) (xs:=ts.map V.ref) (fun i σ H2=>∃ (d:Nat) (cp:List Str) (pl:List Nat) (v5 v6 v7:Option V),σ=[some (.ref p),some (.ref q0),some (.ref l1),some (.ref l2),some (.int (d:Nat)),v5,v6,v7] ∧
   H2 l1=some (.lst (cp.map V.str))/\H2 l2=some (.lst (pl.map nV))/\Same H H2/\walk es (sts.take i) (0,[],[])=some (d,cp,pl)/\cp.length<=2 * i/\pl.length=i)
   ⟨0,[],[],none,none,none,rfl,by rw [upd_ne (Ne.symm n21)];exact upd_same,upd_same,S0,rfl,Nat.le_refl _,rfl⟩ (fun i σ H2 _ ⟨_,_,_,_,_,_,_,_,_,S,_⟩=>sameT S hts) ?_ ?_⟩
  ·rintro i y σ H2 hi ⟨d,cp,pl,v5,v6,v7,rfl,h1,h2,S,hw,hcl,hpl⟩
   obtain ⟨t,hti,rfl⟩:=ref_at hi
   have hil:i < ts.length:=(List.getElem?_eq_some_iff.mp hti).1
   have hil':i < sts.length:=by rw [<-hst.len];exact hil
   have hsi:sts[i]?=some sts[i]:=List.getElem?_eq_getElem hil'
   generalize hgs:sts[i]=st at hsi
   obtain ⟨hT,hO⟩:=hst.item i t st hti hsi
   have hT2:=sameT S hT
   have wt:=walk_turn hsi hw
   refine ⟨fun σ' H'=>σ'=[some (.ref p),some (.ref q0),some (.ref l1),some (.ref l2),some (.int (d:Nat)),some (.ref t),some (optS cp.getLast?),v7]/\H'=H2,?_,?_⟩
   ·refine ⟨_,rfl,l1,_,rfl,.inl (SqL.of h1),_,_,rfl,rfl,_,rfl,?_⟩
    refine ite2 (fun h=>?_) (fun h=>?_)
    ·have h0:=of_decide_eq_true h
     rw [List.length_map] at h0
     obtain ⟨l,el,al⟩:=last_at (cp:=cp) (by omega)
     refine ⟨_,rfl,_,rfl,l1,_,_,_,rfl,rfl,SqL.of h1,al,?_,rfl⟩
     rw [el];rfl
    ·have h0:¬ ((0:Int) < ((cp.map V.str).length:Int)):=fun c=>h (decide_eq_true c)
     rw [List.length_map] at h0
     have e0:cp=[]:=List.eq_nil_of_length_eq_zero (by omega)
     subst e0
     exact ⟨rfl,rfl⟩
   ·rintro σ' H' ⟨rfl,rfl⟩
    refine ⟨_,rfl,_,rfl,_,rfl,_,rfl,p,t,es,d,cp.getLast?,st,rfl,sameT S hp,hT2,hO,?_⟩
    cases ha:after es d cp.getLast? st with
    | none=>
     rw [ha] at wt
     exact nn (walk_stop wt) _ S
    | some y=>
     obtain ⟨d',ws⟩:=y
     rw [ha] at wt
     have hwl:ws.length<=2:=after_len ha
     intro t1 r1 ht1 hr1 hne
     have f1:upd H' t1 (.tup (ws.map V.str)) r1=none:=by rw [upd_ne hne];exact hr1
     have S1:=(same_upd (o:=.tup (ws.map V.str)) ht1).trans (same_upd (o:=.tup [.int (d':Nat),.ref t1]) f1)
     generalize hH3:upd (upd H' t1 (.tup (ws.map V.str))) r1 (.tup [.int (d':Nat),.ref t1])=H3 at S1
     have g1:H3 r1=some (.tup [.int (d':Nat),.ref t1]):=by rw [<-hH3];exact upd_same
     have g2:H3 t1=some (.tup (ws.map V.str)):=by rw [<-hH3,upd_ne (Ne.symm hne)];exact upd_same
     have k1:=S1 _ _ h1
     have k2:=S1 _ _ h2
     have n12:l1 ≠ l2:=Ne.symm n21
     have nr2:r1 ≠ l2:=Ne.symm (ne_of_none h2 hr1)
     have nt2:t1 ≠ l2:=Ne.symm (ne_of_none h2 ht1)
     have nt1:t1 ≠ l1:=Ne.symm (ne_of_none h1 ht1)
     refine ⟨_,rfl,.inl ⟨rfl,_,SqL.of k2⟩,_,rfl,l2,_,_,rfl,rfl,k2,(by rw [List.length_map];exact fewer (by omega)),?_⟩
     refine ⟨_,rfl,r1,_,_,_,rfl,rfl,SqT.of (by rw [upd_ne nr2];exact g1),rfl,?_⟩
     have k1':upd H3 l2 (.lst (pl.map nV++[.int (d:Nat)])) l1=some (.lst (cp.map V.str)):=by rw [upd_ne n12];exact k1
     refine ⟨_,rfl,.inl ⟨rfl,_,SqL.of k1'⟩,_,rfl,r1,_,_,_,rfl,rfl,SqT.of (by rw [upd_ne nr2];exact g1),rfl,l1,t1,_,_,rfl,rfl,k1',SqT.of (by rw [upd_ne nt2];exact g2),(by rw [List.length_map,List.length_map];exact few (by omega)),?_⟩
     refine ⟨d',cp++ws,pl++[d],_,_,_,rfl,?_,?_,?_,wt,?_,?_⟩
     ·rw [upd_same,List.map_append]
     ·rw [upd_ne (Ne.symm n12),upd_same,List.map_append];rfl
     ·exact same_to (same_to (S.trans S1) hl2H) hl1
     ·rw [List.length_append];omega
     ·rw [List.length_append,hpl];rfl
  ·rintro σ H2 ⟨d,cp,pl,v5,v6,v7,rfl,h1,h2,S,hw,hcl,hpl⟩
   rw [List.length_map,hst.len,List.take_length] at hw
   rw [List.length_map] at hcl
   have hp2:=sameT S hp
   have hlen:(es.map V.str).length=es.length:=List.length_map ..
   refine ⟨_,rfl,_,rfl,p,_,rfl,.inr hp2,_,_,rfl,rfl,_,rfl,?_⟩
   rw [hlen]
   refine ite2 (fun h=>⟨z1,nn ?_ _ S⟩) (fun h=>?_)
   ·have h0:=of_decide_eq_true h
    unfold made
    rw [hw]
    show (if d < es.length\/40 < cp.length then none else some (cp,pl))=none
    rw [if_pos (.inl (by omega))]
   have hd:¬ (((d:Nat):Int) < (es.length:Int)):=fun c=>h (decide_eq_true c)
   refine ⟨_,rfl,l1,_,rfl,.inl (SqL.of h1),_,_,rfl,rfl,_,rfl,?_⟩
   rw [List.length_map]
   refine ite2 (fun h4=>⟨z1,nn ?_ _ S⟩) (fun h4=>?_)
   ·have h0:=of_decide_eq_true h4
    unfold made
    rw [hw]
    show (if d < es.length\/40 < cp.length then none else some (cp,pl))=none
    rw [if_pos (.inr (by omega))]
   have hc:¬ ((40:Int) < (cp.length:Int)):=fun c=>h4 (decide_eq_true c)
   have em:made es sts=some (cp,pl):=by
    unfold made
    rw [hw]
    show (if d < es.length\/40 < cp.length then none else some (cp,pl))=_
    rw [if_neg (by omega)]
   rw [em] at q
   refine ⟨_,rfl,l1,_,rfl,.inl ⟨SqL.of h1,fun a ha=>?_⟩⟩
   refine ⟨_,rfl,l2,_,rfl,.inl ⟨SqL.of (same_upd ha _ _ h2),fun b hb=>⟨few (by show 2<=_;omega),fun r hr'=>?_⟩⟩⟩
   obtain ⟨nb,hb1⟩:=free_ne hb
   obtain ⟨nr,hr1⟩:=free_ne hr'
   obtain ⟨nr2,hr2⟩:=free_ne hr1
   exact hq _ _ (rst_three S ha hb hr' trivial trivial trivial (q a b r (S.free ha) (S.free hb1) (S.free hr2) nb nr2 nr))
def spCopy (K:PySem.W.Frag) (C:Addr):Sp:=fun vs H Q E=>∃ (p q:Addr) (es:List Str) (ts:List Addr) (sts:List Sk),vs=[.ref p,.ref q]/\SqT K H p (es.map V.str)/\SqT K H q (ts.map V.ref)/\StepsAt K H ts sts/\sts.length<=1000 ∧
 match made es sts with
 | some (cp,pl)=>∀ a,H a=none->Q (.ref a) (upd H a (.tup (cp.map V.str)))
 | none=>E (.ref C) none H
theorem scCopy:FnScope ["elder","steps"] ["elder","steps"] (defScope sCopy):=⟨rfl,rfl,rfl,by decide +kernel,rfl,by decide +kernel,by decide +kernel⟩
theorem ok_copy {f gW C:Addr} {fd dW:FuncData} (F:Fun K "copy_made" "copy_made" sCopy f fd) (DW:Dfn K mg "steps_walked" sWalk gW dW ["elder","steps"]) (GW:FnOk P w K mg base (CXv P w) 4 gW dW ["elder","steps"] (spWalk K C)):FnOk P w K mg base (CXv P w) 5 f fd ["elder","steps"] (spCopy K C):=by
 refine Fun.okXR F scCopy (fun vs H Q E h=>?_) (fun cdv A outer s H vs Q Q2 E E2 hr h hq hE=>?_)
 ·obtain ⟨p,q,es,ts,sts,rfl,_⟩:=h
  rfl
 ·obtain ⟨p,q0,es,ts,sts,rfl,hp,hts,hst,hsl,q⟩:=h
  refine ⟨_,pss_one (ps_ret (pe_ix ix_tup (pe_call GW hr (by rfl) DW.at_ DW.fn.kp DW.bn .nil passes_def (pa_cons (pv 0) (pa_cons (pv 1) pa_nil))) pe_int (fun _ _=>rfl))),?_⟩
  refine ⟨_,rfl,_,rfl,p,q0,es,ts,sts,rfl,hp,hts,hst,hsl,?_⟩
  cases hm:made es sts with
  | none=>
   rw [hm] at q
   exact hE _ _ _ (Rst.same (Same.refl H) q)
  | some y=>
   obtain ⟨cp,pl⟩:=y
   rw [hm] at q
   intro a b r ha hb hr' n1 n2 n3
   have s1:=same_upd (o:=.tup (cp.map V.str)) ha
   have s2:=same_upd (o:=.tup (pl.map nV)) (show upd H a (.tup (cp.map V.str)) b=none by rw [upd_ne n1];exact hb)
   have s3:=same_upd (o:=.tup [.ref a,.ref b]) (show upd (upd H a (.tup (cp.map V.str))) b (.tup (pl.map nV)) r=none by rw [upd_ne n3,upd_ne n2];exact hr')
   refine ⟨r,_,_,_,rfl,rfl,SqT.of upd_same,rfl,hq _ _ (Rst.one ((s1.trans s2).trans s3) ha (s3 _ _ (s2 _ _ upd_same)) trivial (q a ha))⟩
def spSwW (K:PySem.W.Frag):Sp:=fun vs H Q _=>∃ (p q:Addr) (es cs:List Str) (i j:Nat),vs=[.ref p,.ref q,.int (i:Nat),.int (j:Nat)]/\SqT K H p (es.map V.str)/\SqT K H q (cs.map V.str)/\Q (.bl (swapW es cs i j)) H
theorem scSwW:FnScope ["elder","copy","i","j"] ["elder","copy","i","j"] (defScope sSwW):=⟨rfl,rfl,rfl,by decide +kernel,rfl,by decide +kernel,by decide +kernel⟩
theorem ok_sww {f:Addr} {fd:FuncData} (F:Fun K "swap_writes" "swap_writes" sSwW f fd) (mlen:mg "len" = none):FnOk P w K mg base CX0 1 f fd ["elder","copy","i","j"] (spSwW K):=by
 refine Fun.okR F scSwW (fun vs H Q E h=>?_) (fun cdv A outer s H vs Q Q2 E hr h hq=>?_)
 ·obtain ⟨p,q,es,cs,i,j,rfl,_⟩:=h
  rfl
 ·obtain ⟨p,q0,es,cs,i,j,rfl,hp,hc,q⟩:=h
  refine ⟨_,pss_cons (ps_if (pw_or (pt_cmpR op_ge (pe_op op_add (pv 2) pe_int) (pe_callB call_len_seq (by rfl) mlen PySem.boot_len (pa_cons (pv 0) pa_nil)) (nomark _)) (pw_or1 (pt_cmpR op_eq (pe_ix ix_tup (pv 0) (pv 2) (fun _ _=>rfl)) (pe_ix ix_tup (pv 0) (pe_op op_add (pv 2) pe_int) (fun _ _=>rfl)) (nomark _)))).pt (pss_one (ps_ret pe_bl)) pss_nil)
   (pss_one (ps_ret (pe_cmpR (op_eqS hr.units) (pe_slice sl_tupA (pv 1) (po_some (pv 3)) (po_some (pe_op op_add (pv 3) pe_int))) (pe_tup (pa_cons (pe_ix ix_tup (pv 0) (pe_op op_add (pv 2) pe_int) (fun _ _=>rfl)) (pa_cons (pe_ix ix_tup (pv 0) (pv 2) (fun _ _=>rfl)) pa_nil))) (nomark _)))),?_⟩
  have go:∀ b H',Same H H'->swapW es cs i j=b->Q2 (.bl b) H':=fun b H' S e=>hq _ _ (Rst.same S (by rw [<-e];exact q))
  have hlen:(es.map V.str).length=es.length:=List.length_map ..
  refine ⟨_,rfl,_,_,rfl,rfl,_,rfl,p,_,rfl,.inr hp,_,_,rfl,rfl,_,rfl,?_⟩
  rw [hlen]
  refine ite2 (fun h=>iteT (go _ _ (Same.refl _) ?_)) (fun h=>?_)
  ·have:=of_decide_eq_true h
   unfold swapW
   rw [if_neg (by omega)]
  have hi:¬ ((es.length:Int)<=((i:Nat):Int)+1):=fun c=>h (decide_eq_true c)
  have e1:((i:Nat):Int)+1=((i+1:Nat):Int):=by omega
  refine ⟨_,rfl,_,rfl,p,_,_,_,rfl,rfl,hp,at_w (by omega),_,rfl,_,rfl,_,_,rfl,rfl,p,_,_,_,rfl,rfl,hp,(by rw [e1];exact at_w (by omega)),rfl,_,rfl,?_⟩
  refine ite2 (fun h2=>go _ _ (Same.refl _) ?_) (fun h2=>?_)
  ·have e:=of_decide_eq_true h2
   injection e with e
   unfold swapW
   rw [if_pos (by omega),if_pos e]
  have hne:¬ gt es i=gt es (i+1):=fun c=>h2 (decide_eq_true (by rw [c]))
  refine ⟨_,rfl,_,rfl,_,rfl,_,rfl,_,_,rfl,rfl,_,rfl,cutTup hc fun pc Hc Sc hpc=>?_⟩
  rw [cutV_two] at hpc
  refine ⟨_,rfl,_,rfl,_,_,rfl,rfl,p,_,_,_,rfl,rfl,sameT Sc hp,(by rw [e1];exact at_w (by omega)),_,rfl,_,rfl,p,_,_,_,rfl,rfl,sameT Sc hp,at_w (by omega),few (by show 2<=_;omega),fun t ht=>?_⟩
  have St:=same_upd (o:=.tup [.str (gt es (i+1)),.str (gt es i)]) ht
  have q1:SqT K (upd Hc t (.tup [.str (gt es (i+1)),.str (gt es i)])) t ([gt es (i+1),gt es i].map V.str):=SqT.of upd_same
  refine ⟨0,_,by decide,EqS.strs (.inr ⟨sameT St hpc,q1⟩),go _ _ (Sc.trans St) ?_⟩
  unfold swapW
  rw [if_pos (by omega),if_neg hne]
def spSkL (K:PySem.W.Frag):Sp:=fun vs H Q _=>∃ (p:Addr) (es:List Str) (i:Nat),vs=[.ref p,.int (i:Nat)]/\SqT K H p (es.map V.str)/\i<=es.length/\es.length<=1000/\∀ l,H l=none->Q (.ref l) (upd H l (.lst ((skips es i).map fun k=>.int ((k:Nat):Int))))
theorem scSkL:FnScope ["elder","i"] ["elder","i"] (defScope sSkL):=⟨rfl,rfl,rfl,by decide +kernel,rfl,by decide +kernel,by decide +kernel⟩
theorem nd_kei:(["k","elder","i"]:List Str).Nodup:=by decide +kernel
theorem ok_skl {f:Addr} {fd:FuncData} (F:Fun K "skip_lengths" "skip_lengths" sSkL f fd) (mlen:mg "len" = none) (mrange:mg "range" = none):FnOk P w K mg base CX0 1 f fd ["elder","i"] (spSkL K):=by
 refine F.ok scSkL (fun vs H Q E h=>?_) (fun cdv A outer s H vs Q E hr h=>?_)
 ·obtain ⟨p,es,i,rfl,_⟩:=h
  rfl
 ·obtain ⟨p,es,i,rfl,hp,hi,hel,q⟩:=h
  refine ⟨_,pss_cons (ps_if (pt_cmpR op_eq (pv 1) pe_int (nomark _)) (pss_one (ps_ret (pe_lst pa_nil))) pss_nil)
   (pss_one (ps_ret (pe_comp (Nc:=["k","elder","i"]) (mp:=[none,some 0,some 1]) rfl (CompOk.of (by rfl)) (pi_range2 (by rfl) mrange (pa_cons pe_int (pa_cons (pe_op op_add (pe_op op_sub (pe_callB call_len_seq (by rfl) mlen PySem.boot_len (pa_cons (pv 0) pa_nil)) (pv 1)) pe_int) pa_nil)))
    (fun cl C s H fp=>⟨pg_name (i:=0) nd_kei rfl (Or.inl rfl),pts_one (pt_cmpR op_eq (pe_ix (ix_tupK (K:=K) rfl) (pv 1) (pe_op op_sub (pe_op op_add (pv 2) (pv 0)) pe_int) (fun _ _=>rfl)) (pe_ix (ix_tupK (K:=K) rfl) (pv 1) (pe_op op_sub (pv 2) pe_int) (fun _ _=>rfl)) (nomark _)),pv 0⟩)))),?_⟩
  have hlen:(es.map V.str).length=es.length:=List.length_map ..
  refine ⟨_,rfl,rfl,_,rfl,?_⟩
  by_cases h0:i=0
  ·refine iteY (by rw [h0];rfl) ⟨Nat.zero_le _,fun l hl=>?_⟩
   have:=q l hl
   unfold skips at this
   rw [if_pos h0] at this
   exact this
  refine iteK (fun e=>h0 (by injection e with e;omega)) ?_
  refine ⟨_,rfl,p,_,rfl,.inr hp,_,rfl,_,_,rfl,rfl,_,_,rfl,rfl,1,_,rfl,⟨by decide,by decide,by rw [hlen];omega,by rw [hlen];omega⟩,?_⟩
  have en:((((es.map V.str).length:Int) - ((i:Nat):Int)+1) - 1).toNat=es.length - i:=by rw [hlen];omega
  rw [en]
  refine comp_pure (as:=List.range (es.length - i)) (v:=fun k=>.int (1+((k:Nat):Int))) (fun k=>decide (gt es (i+k)=gt es (i - 1))) (fun k=>.int (1+((k:Nat):Int))) (src_range 1 (es.length - i) H) (by rw [List.length_range];exact few (by omega)) (fun k hk K' hK'=>?_) (fun k hk _ K' hK'=>⟨_,rfl,hK'⟩) (fun D hD=>?_)
  ·have hk':=List.mem_range.mp hk
   have e1:((i:Nat):Int)+(1+((k:Nat):Int)) - 1=((i+k:Nat):Int):=by omega
   have e2:((i:Nat):Int) - 1=((i - 1:Nat):Int):=by omega
   refine ⟨_,rfl,_,rfl,_,rfl,_,_,rfl,rfl,_,_,rfl,rfl,p,_,_,_,rfl,rfl,hp,(by rw [e1];exact at_w (by omega)),_,rfl,_,rfl,_,_,rfl,rfl,p,_,_,_,rfl,rfl,hp,(by rw [e2];exact at_w (by omega)),rfl,_,rfl,?_⟩
   rw [str_dec]
   exact hK'
  ·have:=q D hD
   unfold skips at this
   rw [if_neg h0,List.map_map] at this
   have ef:(fun k:Nat=>V.int (1+((k:Nat):Int)))=((fun k:Nat=>V.int ((k:Nat):Int)) ∘ fun x=>x+1):=by
    funext k
    show V.int (1+((k:Nat):Int))=V.int (((k+1:Nat)):Int)
    congr 1;omega
   rw [ef]
   exact this
def spWays (K:PySem.W.Frag):Sp:=fun vs H Q _=>∃ (p q:Addr) (es cs:List Str) (i j:Nat),vs=[.ref p,.ref q,.int (i:Nat),.int (j:Nat)]/\SqT K H p (es.map V.str)/\SqT K H q (cs.map V.str)/\i<=es.length/\j<=cs.length/\es.length<=1000 ∧
 ∀ (H':Hp) (l:Addr) (as:List Addr),Same H H'->H' l=some (.lst (as.map V.ref))->WaysAt H' as (ways es cs i j)->Q (.ref l) H'
theorem scWays:FnScope ["elder","copy","i","j","ways","step"] ["elder","copy","i","j"] (defScope sWays):=⟨rfl,rfl,rfl,by decide +kernel,rfl,by decide +kernel,by decide +kernel⟩
theorem nd_kij:(["k","i","j"]:List Str).Nodup:=by decide +kernel
theorem ok_ways {f gS gK:Addr} {fd dS dK:FuncData} (F:Fun K "knot_ways" "knot_ways" sWays f fd) (DS:Dfn K mg "swap_writes" sSwW gS dS ["elder","copy","i","j"]) (DK:Dfn K mg "skip_lengths" sSkL gK dK ["elder","i"]) (mlen:mg "len" = none) (mrange:mg "range" = none):FnOk P w K mg base CX0 2 f fd ["elder","copy","i","j"] (spWays K):=by
 have GS:FnOk P w K mg base CX0 1 gS dS ["elder","copy","i","j"] (spSwW K):=ok_sww DS.fn mlen
 have GK:FnOk P w K mg base CX0 1 gK dK ["elder","i"] (spSkL K):=ok_skl DK.fn mlen mrange
 refine F.ok scWays (fun vs H Q E h=>?_) (fun cdv A outer s H vs Q E hr h=>?_)
 ·obtain ⟨p,q,es,cs,i,j,rfl,_⟩:=h
  rfl
 ·obtain ⟨p,q0,es,cs,i,j,rfl,hp,hc,hi,hj,hel,q⟩:=h
  refine ⟨_,pss_cons (ps_set (i:=4) scWays.nd rfl (Or.inl rfl) (pe_lst pa_nil))
   (pss_cons (ps_mid (ps_if (pw_and (pt_cmpR op_lt (pv 2) (pe_callB call_len_seq (by rfl) mlen PySem.boot_len (pa_cons (pv 0) pa_nil)) (nomark _)) (pw_and1 (pt_cmpR op_lt (pv 3) (pe_callB call_len_seq (by rfl) mlen PySem.boot_len (pa_cons (pv 1) pa_nil)) (nomark _)))).pt
    (pss_cons (ps_set (i:=5) scWays.nd rfl (Or.inl rfl) (pe_ifExp (pt_cmpR op_eq (pe_ix ix_tup (pv 0) (pv 2) (fun _ _=>rfl)) (pe_ix ix_tup (pv 1) (pv 3) (fun _ _=>rfl)) (nomark _)) (pe_tup (pa_cons pe_str pa_nil)) (pe_tup (pa_cons pe_str (pa_cons (pe_ix ix_tup (pv 1) (pv 3) (fun _ _=>rfl)) pa_nil)))))
    (pss_one (ps_expr (pe_bm PySem.F.plainAttrs_list PySem.F.slot_list_append PySem.F.type_list_append mt_append (pv 4) (pa_cons (pe_tup (pa_cons (pv 5) (pa_cons (pe_op op_add (pv 2) pe_int) (pa_cons (pe_op op_add (pv 3) pe_int) pa_nil)))) pa_nil))))) pss_nil))
   (pss_cons (ps_mid (ps_if (pt_cmpR op_lt (pv 2) (pe_callB call_len_seq (by rfl) mlen PySem.boot_len (pa_cons (pv 0) pa_nil)) (nomark _)) (pss_one (ps_expr (pe_bm PySem.F.plainAttrs_list PySem.F.slot_list_append PySem.F.type_list_append mt_append (pv 4) (pa_cons (pe_tup (pa_cons (pe_tup (pa_cons pe_str pa_nil)) (pa_cons (pe_op op_add (pv 2) pe_int) (pa_cons (pv 3) pa_nil)))) pa_nil)))) pss_nil))
   (pss_cons (ps_mid (ps_if (pt_cmpR op_lt (pv 3) (pe_callB call_len_seq (by rfl) mlen PySem.boot_len (pa_cons (pv 1) pa_nil)) (nomark _)) (pss_one (ps_expr (pe_bm PySem.F.plainAttrs_list PySem.F.slot_list_append PySem.F.type_list_append mt_append (pv 4) (pa_cons (pe_tup (pa_cons (pe_tup (pa_cons pe_str (pa_cons (pe_ix ix_tup (pv 1) (pv 3) (fun _ _=>rfl)) pa_nil))) (pa_cons (pv 2) (pa_cons (pe_op op_add (pv 3) pe_int) pa_nil)))) pa_nil)))) pss_nil))
   (pss_cons (ps_mid (ps_if (pw_and (pt_chain op_lt op_lt pe_int (pv 3) (pe_callB call_len_seq (by rfl) mlen PySem.boot_len (pa_cons (pv 1) pa_nil))) (pw_and1 (pt_cmpR op_eq (pe_ix ix_tup (pv 1) (pv 3) (fun _ _=>rfl)) (pe_ix ix_tup (pv 1) (pe_op op_sub (pv 3) pe_int) (fun _ _=>rfl)) (nomark _)))).pt
    (pss_one (ps_expr (pe_bm PySem.F.plainAttrs_list PySem.F.slot_list_append PySem.F.type_list_append mt_append (pv 4) (pa_cons (pe_tup (pa_cons (pe_tup (pa_cons pe_str pa_nil)) (pa_cons (pv 2) (pa_cons (pe_op op_add (pv 3) pe_int) pa_nil)))) pa_nil)))) pss_nil))
   (pss_cons (ps_mid (ps_if (pt_val (pe_call GS hr (by rfl) DS.at_ DS.fn.kp DS.bn .nil pass0 (pa_cons (pv 0) (pa_cons (pv 1) (pa_cons (pv 2) (pa_cons (pv 3) pa_nil)))))) (pss_one (ps_expr (pe_bm PySem.F.plainAttrs_list PySem.F.slot_list_append PySem.F.type_list_append mt_append (pv 4) (pa_cons (pe_tup (pa_cons (pe_tup (pa_cons pe_str pa_nil)) (pa_cons (pe_op op_add (pv 2) pe_int) (pa_cons (pe_op op_add (pv 3) pe_int) pa_nil)))) pa_nil)))) pss_nil))
   (pss_cons (ps_expr (pe_bm PySem.F.plainAttrs_list PySem.F.slot_list_extend PySem.F.type_list_extend mt_extend (pv 4) (pa_cons (pe_comp (Nc:=["k","i","j"]) (mp:=[none,some 2,some 3]) rfl (CompOk.of (by rfl)) (pi_list (pe_call GK hr (by rfl) DK.at_ DK.fn.kp DK.bn .nil pass0 (pa_cons (pv 0) (pa_cons (pv 2) pa_nil))))
    (fun cl C s H fp=>⟨pg_name (i:=0) nd_kij rfl (Or.inl rfl),pts_nil,pe_tup (pa_cons (pe_tup (pa_cons pe_str (pa_cons (pv 0) pa_nil))) (pa_cons (pe_op op_add (pv 1) (pv 0)) (pa_cons (pv 2) pa_nil)))⟩)) pa_nil)))
   (pss_one (ps_ret (pv 4))))))))),?_⟩
  have z1:(1:Nat)<=sizeLine:=few (by omega)
  have z2:(2:Nat)<=sizeLine:=few (by omega)
  have z3:(3:Nat)<=sizeLine:=few (by omega)
  have hle:(es.map V.str).length=es.length:=List.length_map ..
  have hlc:(cs.map V.str).length=cs.length:=List.length_map ..
  have ei1:((i:Nat):Int)+1=((i+1:Nat):Int):=by omega
  have ej1:((j:Nat):Int)+1=((j+1:Nat):Int):=by omega
  have ei2:((i:Nat):Int)+2=((i+2:Nat):Int):=by omega
  have ej2:((j:Nat):Int)+2=((j+2:Nat):Int):=by omega
  have dle:decide (((i:Nat):Int) < ((es.map V.str).length:Int))=decide (i < es.length):=by rw [hle];exact decide_eq_decide.mpr (by omega)
  have dlc:decide (((j:Nat):Int) < ((cs.map V.str).length:Int))=decide (j < cs.length):=by rw [hlc];exact decide_eq_decide.mpr (by omega)
  refine ⟨Nat.zero_le _,fun l hl=>?_⟩
  refine ⟨fun σ' H'=>∃ (v5:Option V) (as:List Addr),σ'=[some (.ref p),some (.ref q0),some (.int (i:Nat)),some (.int (j:Nat)),some (.ref l),v5]/\H' l=some (.lst (as.map V.ref))/\Same H H'/\WaysAt H' as (w1 es cs i j)/\as.length<=1,?_,?_⟩
  ·refine ⟨_,rfl,_,rfl,p,_,rfl,.inr (sameT (same_upd hl) hp),_,_,rfl,rfl,_,rfl,?_⟩
   rw [dle]
   refine ite2 (fun h1=>?_) (fun h1=>iteF ⟨none,[],rfl,upd_same,same_upd hl,?_,Nat.zero_le _⟩)
   ·have h1:=of_decide_eq_true h1
    refine ⟨_,rfl,_,rfl,q0,_,rfl,.inr (sameT (same_upd hl) hc),_,_,rfl,rfl,_,rfl,?_⟩
    rw [dlc]
    refine ite2 (fun h2=>?_) (fun h2=>⟨none,[],rfl,upd_same,same_upd hl,?_,Nat.zero_le _⟩)
    ·have h2:=of_decide_eq_true h2
     have ew:w1 es cs i j=[((if gt es i=gt cs j then .keep else .turn (gt cs j)),i+1,j+1)]:=by unfold w1;rw [if_pos ⟨h1,h2⟩]
     rw [ew]
     have S0:=same_upd (o:=.lst []) hl
     have l0:upd H l (.lst []) l=some (.lst (([]:List Addr).map V.ref)):=upd_same
     refine ⟨_,rfl,_,rfl,p,_,_,_,rfl,rfl,sameT S0 hp,at_w h1,_,rfl,_,rfl,q0,_,_,_,rfl,rfl,sameT S0 hc,at_w h2,rfl,_,rfl,?_⟩
     have fin:∀ st:Sk,(if gt es i=gt cs j then Sk.keep else .turn (gt cs j))=st->∀ t,upd H l (.lst []) t=none->∀ a,upd (upd H l (.lst [])) t (.tup (stepV st)) a=none →
       upd (upd (upd H l (.lst [])) t (.tup (stepV st))) a (.tup (wayV t (st,i+1,j+1))) l=some (.lst (([]:List Addr).map V.ref)) ∧
       ∃ (v5:Option V) (as:List Addr),[some (V.ref p),some (V.ref q0),some (V.int (i:Nat)),some (V.int (j:Nat)),some (V.ref l),some (V.ref t)]=[some (.ref p),some (.ref q0),some (.int (i:Nat)),some (.int (j:Nat)),some (.ref l),v5] ∧
        upd (upd (upd (upd H l (.lst [])) t (.tup (stepV st))) a (.tup (wayV t (st,i+1,j+1)))) l (.lst (([]:List Addr).map V.ref++[.ref a])) l=some (.lst (as.map V.ref)) ∧
        Same H (upd (upd (upd (upd H l (.lst [])) t (.tup (stepV st))) a (.tup (wayV t (st,i+1,j+1)))) l (.lst (([]:List Addr).map V.ref++[.ref a]))) ∧
        WaysAt (upd (upd (upd (upd H l (.lst [])) t (.tup (stepV st))) a (.tup (wayV t (st,i+1,j+1)))) l (.lst (([]:List Addr).map V.ref++[.ref a]))) as [((if gt es i=gt cs j then .keep else .turn (gt cs j)),i+1,j+1)]/\as.length<=1:=fun st e t ht a ha=>by
      obtain ⟨b1,b2,b3,b4⟩:=way_add (x:=(st,i+1,j+1)) S0 hl l0 WaysAt.nil ht ha
      exact ⟨b1,_,[a],rfl,b2,b3,by rw [e];exact b4,Nat.le_refl _⟩
     by_cases he:gt es i=gt cs j
     ·refine iteY (by rw [he]) ⟨z1,fun t ht=>?_⟩
      have k1:=same_upd (o:=.tup (stepV .keep)) ht _ _ l0
      refine ⟨_,rfl,.inl ⟨rfl,_,SqL.of k1⟩,_,rfl,_,rfl,_,_,rfl,rfl,_,rfl,_,_,rfl,rfl,z3,fun a ha=>?_⟩
      obtain ⟨c1,c2⟩:=fin .keep (by rw [if_pos he]) t ht a ha
      exact ⟨l,_,_,rfl,rfl,c1,fewer (by show 0<=_;omega),c2⟩
     ·refine iteK (fun e=>he (by injection e)) ⟨_,rfl,_,rfl,q0,_,_,_,rfl,rfl,sameT S0 hc,at_w h2,z2,fun t ht=>?_⟩
      have k1:=same_upd (o:=.tup (stepV (.turn (gt cs j)))) ht _ _ l0
      refine ⟨_,rfl,.inl ⟨rfl,_,SqL.of k1⟩,_,rfl,_,rfl,_,_,rfl,rfl,_,rfl,_,_,rfl,rfl,z3,fun a ha=>?_⟩
      obtain ⟨c1,c2⟩:=fin (.turn (gt cs j)) (by rw [if_neg he]) t ht a ha
      exact ⟨l,_,_,rfl,rfl,c1,fewer (by show 0<=_;omega),c2⟩
    ·have h2:¬ j < cs.length:=fun c=>h2 (decide_eq_true c)
     unfold w1
     rw [if_neg (by omega)]
     exact WaysAt.nil
   ·have h1:¬ i < es.length:=fun c=>h1 (decide_eq_true c)
    unfold w1
    rw [if_neg (by omega)]
    exact WaysAt.nil
  rintro σ' H1 ⟨v5,as1,rfl,k1,S1,W1,L1⟩
  -- one way more,or none: the rest of the ifs
  have step:∀ {H2:Hp} {as:List Addr} {ws:List Way} (x:Way),H2 l=some (.lst (as.map V.ref))->Same H H2->WaysAt H2 as ws->∀ t,H2 t=none->∀ a,upd H2 t (.tup (stepV x.1)) a=none →
    upd (upd H2 t (.tup (stepV x.1))) a (.tup (wayV t x)) l=some (.lst (as.map V.ref))/\upd (upd (upd H2 t (.tup (stepV x.1))) a (.tup (wayV t x))) l (.lst (as.map V.ref++[.ref a])) l=some (.lst ((as++[a]).map V.ref)) ∧
    Same H (upd (upd (upd H2 t (.tup (stepV x.1))) a (.tup (wayV t x))) l (.lst (as.map V.ref++[.ref a])))/\WaysAt (upd (upd (upd H2 t (.tup (stepV x.1))) a (.tup (wayV t x))) l (.lst (as.map V.ref++[.ref a]))) (as++[a]) (ws++[x]):=fun x k S W t ht a ha=>way_add S hl k W ht ha
  -- lose
  refine ⟨fun σ' H'=>∃ (v5:Option V) (as:List Addr),σ'=[some (.ref p),some (.ref q0),some (.int (i:Nat)),some (.int (j:Nat)),some (.ref l),v5]/\H' l=some (.lst (as.map V.ref))/\Same H H'/\WaysAt H' as (w1 es cs i j++w2 es i j)/\as.length<=2,?_,?_⟩
  ·refine ⟨_,rfl,_,rfl,p,_,rfl,.inr (sameT S1 hp),_,_,rfl,rfl,_,rfl,?_⟩
   rw [dle]
   refine ite2 (fun h=>?_) (fun h=>⟨v5,as1,rfl,k1,S1,?_,by omega⟩)
   ·have h:=of_decide_eq_true h
    refine ⟨_,rfl,.inl ⟨rfl,_,SqL.of k1⟩,z1,fun t ht=>?_⟩
    refine ⟨_,rfl,_,_,rfl,rfl,_,rfl,z3,fun a ha=>?_⟩
    obtain ⟨c1,c2,c3,c4⟩:=step (.lose,i+1,j) k1 S1 W1 t ht a ha
    refine ⟨l,_,_,rfl,rfl,c1,(by rw [List.length_map];exact fewer (by omega)),v5,as1++[a],rfl,c2,c3,?_,by rw [List.length_append];show _+1<=_;omega⟩
    unfold w2
    rw [if_pos h]
    exact c4
   ·have h:¬ i < es.length:=fun c=>h (decide_eq_true c)
    unfold w2
    rw [if_neg h,List.append_nil]
    exact W1
  rintro σ' H2 ⟨v5,as2,rfl,k2,S2,W2,L2⟩
  -- add
  refine ⟨fun σ' H'=>∃ (v5:Option V) (as:List Addr),σ'=[some (.ref p),some (.ref q0),some (.int (i:Nat)),some (.int (j:Nat)),some (.ref l),v5]/\H' l=some (.lst (as.map V.ref))/\Same H H'/\WaysAt H' as (w1 es cs i j++w2 es i j++w3 cs i j)/\as.length<=3,?_,?_⟩
  ·refine ⟨_,rfl,_,rfl,q0,_,rfl,.inr (sameT S2 hc),_,_,rfl,rfl,_,rfl,?_⟩
   rw [dlc]
   refine ite2 (fun h=>?_) (fun h=>⟨v5,as2,rfl,k2,S2,?_,by omega⟩)
   ·have h:=of_decide_eq_true h
    refine ⟨_,rfl,.inl ⟨rfl,_,SqL.of k2⟩,_,rfl,_,rfl,q0,_,_,_,rfl,rfl,sameT S2 hc,at_w h,z2,fun t ht=>?_⟩
    refine ⟨_,rfl,_,rfl,_,_,rfl,rfl,z3,fun a ha=>?_⟩
    obtain ⟨c1,c2,c3,c4⟩:=step (.add (gt cs j),i,j+1) k2 S2 W2 t ht a ha
    refine ⟨l,_,_,rfl,rfl,c1,(by rw [List.length_map];exact fewer (by omega)),v5,as2++[a],rfl,c2,c3,?_,by rw [List.length_append];show _+1<=_;omega⟩
    unfold w3
    rw [if_pos h]
    exact c4
   ·have h:¬ j < cs.length:=fun c=>h (decide_eq_true c)
    unfold w3
    rw [if_neg h,List.append_nil]
    exact W2
  rintro σ' H3 ⟨v5,as3,rfl,k3,S3,W3,L3⟩
  -- twice
  refine ⟨fun σ' H'=>∃ (v5:Option V) (as:List Addr),σ'=[some (.ref p),some (.ref q0),some (.int (i:Nat)),some (.int (j:Nat)),some (.ref l),v5]/\H' l=some (.lst (as.map V.ref))/\Same H H'/\WaysAt H' as (w1 es cs i j++w2 es i j++w3 cs i j++w4 cs i j)/\as.length<=4,?_,?_⟩
  ·have none4:¬ (0 < j/\j < cs.length/\gt cs j=gt cs (j - 1))->∃ (v5':Option V) (as:List Addr),[some (V.ref p),some (V.ref q0),some (V.int (i:Nat)),some (V.int (j:Nat)),some (V.ref l),v5]=[some (.ref p),some (.ref q0),some (.int (i:Nat)),some (.int (j:Nat)),some (.ref l),v5']/\H3 l=some (.lst (as.map V.ref))/\Same H H3/\WaysAt H3 as (w1 es cs i j++w2 es i j++w3 cs i j++w4 cs i j)/\as.length<=4:=fun h=>by
    refine ⟨v5,as3,rfl,k3,S3,?_,by omega⟩
    unfold w4
    rw [if_neg h,List.append_nil]
    exact W3
   refine ⟨_,rfl,_,_,rfl,rfl,_,rfl,?_⟩
   refine ite2 (fun h0=>?_) (fun h0=>?_)
   ·have h0:=of_decide_eq_true h0
    refine ⟨_,rfl,q0,_,rfl,.inr (sameT S3 hc),_,_,rfl,rfl,_,rfl,?_⟩
    rw [dlc]
    refine ite2 (fun h1=>?_) (fun h1=>iteF (none4 fun c=>h1 (decide_eq_true c.2.1)))
    have h1:=of_decide_eq_true h1
    have e2:((j:Nat):Int) - 1=((j - 1:Nat):Int):=by omega
    refine ⟨_,rfl,_,rfl,q0,_,_,_,rfl,rfl,sameT S3 hc,at_w h1,_,rfl,_,rfl,_,_,rfl,rfl,q0,_,_,_,rfl,rfl,sameT S3 hc,(by rw [e2];exact at_w (by omega)),rfl,_,rfl,?_⟩
    refine ite2 (fun h2=>?_) (fun h2=>none4 fun c=>h2 (decide_eq_true (by rw [c.2.2])))
    have h2:=of_decide_eq_true h2
    injection h2 with h2
    refine ⟨_,rfl,.inl ⟨rfl,_,SqL.of k3⟩,z1,fun t ht=>?_⟩
    refine ⟨_,rfl,_,rfl,_,_,rfl,rfl,z3,fun a ha=>?_⟩
    obtain ⟨c1,c2,c3,c4⟩:=step (.twice,i,j+1) k3 S3 W3 t ht a ha
    refine ⟨l,_,_,rfl,rfl,c1,(by rw [List.length_map];exact fewer (by omega)),v5,as3++[a],rfl,c2,c3,?_,by rw [List.length_append];show _+1<=_;omega⟩
    unfold w4
    rw [if_pos ⟨by omega,h1,h2⟩]
    exact c4
   ·have h0:¬ ((0:Int) < ((j:Nat):Int)):=fun c=>h0 (decide_eq_true c)
    exact ⟨_,rfl,iteF (iteF (none4 fun c=>h0 (by omega)))⟩
  rintro σ' H4 ⟨v5,as4,rfl,k4,S4,W4,L4⟩
  -- swap
  refine ⟨fun σ' H'=>∃ (v5:Option V) (as:List Addr),σ'=[some (.ref p),some (.ref q0),some (.int (i:Nat)),some (.int (j:Nat)),some (.ref l),v5]/\H' l=some (.lst (as.map V.ref))/\Same H H'/\WaysAt H' as (w1 es cs i j++w2 es i j++w3 cs i j++w4 cs i j++w5 es cs i j)/\as.length<=5,?_,?_⟩
  ·refine ⟨_,rfl,_,rfl,_,rfl,_,rfl,p,q0,es,cs,i,j,rfl,sameT S4 hp,sameT S4 hc,_,rfl,?_⟩
   cases hsw:swapW es cs i j with
   | false=>
    refine iteF ⟨v5,as4,rfl,k4,S4,?_,by omega⟩
    unfold w5
    rw [hsw,if_neg Bool.false_ne_true,List.append_nil]
    exact W4
   | true=>
    refine iteT ⟨_,rfl,.inl ⟨rfl,_,SqL.of k4⟩,z1,fun t ht=>?_⟩
    refine ⟨_,rfl,_,_,rfl,rfl,_,rfl,_,_,rfl,rfl,z3,fun a ha=>?_⟩
    obtain ⟨c1,c2,c3,c4⟩:=step (.swap,i+2,j+2) k4 S4 W4 t ht a ha
    refine ⟨l,_,_,rfl,rfl,c1,(by rw [List.length_map];exact fewer (by omega)),v5,as4++[a],rfl,c2,c3,?_,by rw [List.length_append];show _+1<=_;omega⟩
    unfold w5
    rw [hsw,if_pos rfl]
    exact c4
  rintro σ' H5 ⟨v5,as5,rfl,k5,S5,W5,L5⟩
  -- skips
  have hskl:(skips es i).length<=1000:=by
   unfold skips
   split
   ·exact Nat.zero_le _
   ·rw [List.length_map]
    exact Nat.le_trans (List.length_filter_le _ _) (by rw [List.length_range];omega)
  refine ⟨_,rfl,.inl ⟨rfl,_,SqL.of k5⟩,_,rfl,_,rfl,p,es,i,rfl,sameT S5 hp,hi,hel,fun ls hls=>?_⟩
  have S6:=same_upd (o:=.lst ((skips es i).map fun k=>.int ((k:Nat):Int))) hls
  have s6:upd H5 ls (.lst ((skips es i).map fun k=>.int ((k:Nat):Int))) ls=some (.lst ((skips es i).map fun k=>.int ((k:Nat):Int))):=upd_same
  generalize hH6:upd H5 ls (.lst ((skips es i).map fun k=>.int ((k:Nat):Int)))=H6 at S6 s6
  refine ⟨ls,rfl,⟨_,SqL.of s6⟩,comp_grow (as:=skips es i) (v:=fun k=>.int ((k:Nat):Int)) (fun n acc H'=>∃ bs:List Addr,acc=bs.map V.ref/\WaysAt H' bs ((w6 es i j).take n)/\bs.length=n/\Same H6 H') (fun n acc H' _ ⟨_,_,_,_,S⟩=>src_list (SqL.of (S _ _ s6))) (few (by omega))
   ⟨[],rfl,WaysAt.nil,rfl,Same.refl _⟩ (fun n acc H' ⟨bs,e,_,hl,_⟩=>by rw [e,List.length_map,hl]) ?_ ?_⟩
  ·rintro n k acc H' hk ⟨bs,rfl,hW,hbl,S⟩ kk hkk
   refine ⟨_,rfl,z2,fun t ht=>?_⟩
   refine ⟨_,rfl,_,rfl,_,_,rfl,rfl,_,rfl,z3,fun a ha=>?_⟩
   have T1:=same_upd (o:=.tup (stepV (.skip k))) ht
   have ek:((i:Nat):Int)+((k:Nat):Int)=((i+k:Nat):Int):=by omega
   have T2:=same_upd (o:=.tup (wayV t (.skip k,i+k,j))) ha
   refine hkk _ _ ⟨bs++[a],by rw [List.map_append];rfl,?_,by rw [List.length_append,hbl];rfl,(S.trans T1).trans T2⟩
   have hnl:n < (w6 es i j).length:=by unfold w6;rw [List.length_map];exact (List.getElem?_eq_some_iff.mp hk).1
   have hx:(w6 es i j)[n]?=some (.skip k,i+k,j):=by unfold w6;rw [List.getElem?_map,hk];rfl
   rw [List.take_succ_eq_append_getElem hnl,(List.getElem?_eq_some_iff.mp hx).2]
   exact ((hW.mono T1).mono T2).app (WaysAt.one (x:=(.skip k,i+k,j)) upd_same (T2 _ _ upd_same))
  ·rintro acc H7 ⟨bs,rfl,hW,hbl,S7⟩ D hD
   have S8:=same_upd (o:=.lst (bs.map V.ref)) hD
   have k8:=S8 _ _ (S7 _ _ (S6 _ _ k5))
   have w8:(w6 es i j).take (skips es i).length=w6 es i j:=by
    have:(w6 es i j).length=(skips es i).length:=by unfold w6;rw [List.length_map]
    rw [<-this,List.take_length]
   rw [w8] at hW
   refine ⟨l,D,_,_,rfl,rfl,k8,upd_same,(by rw [List.length_map,List.length_map,hbl];exact few (by omega)),?_⟩
   refine ⟨_,rfl,q _ l (as5++bs) (same_to ((((S5.trans S6).trans S7)).trans S8) hl) (by rw [upd_same,List.map_append]) ?_⟩
   unfold ways
   exact ((((W5.mono S6).mono S7).mono S8).app (hW.mono S8)).set k8
def spAlike:Sp:=fun vs H Q _=>∃ a b:Str,vs=[.str a,.str b]/\a.length<=sizeLine/\b.length<=sizeLine/\Q (.bl (alikeB a.cps.toList b.cps.toList)) H
theorem scLooks:FnScope ["one","two","unlike"] ["one","two"] (defScope sLooks):=⟨rfl,rfl,rfl,by decide +kernel,rfl,by decide +kernel,by decide +kernel⟩
theorem nd_Looks:(["place","one","two"]:List Str).Nodup:=by decide +kernel
theorem ok_Looks {f:Addr} {fd:FuncData} (F:Fun K "looks_alike" "looks_alike" sLooks f fd) (mlen:mg "len" = none) (mrange:mg "range" = none):FnOk P w K mg base CX0 1 f fd ["one","two"] spAlike:=by
 refine Fun.okR F scLooks (fun vs H Q E h=>?_) (fun cdv A outer s H vs Q Q2 E hr h hq=>?_)
 ·obtain ⟨a,b,rfl,_⟩:=h
  rfl
 ·obtain ⟨a,b,rfl,ha,hb,q⟩:=h
  refine ⟨_,pss_cons (ps_if (pt_cmpR op_ne (pe_callB call_len_str (by rfl) mlen PySem.boot_len (pa_cons (pv 0) pa_nil)) (pe_callB call_len_str (by rfl) mlen PySem.boot_len (pa_cons (pv 1) pa_nil)) (nomark _)) (pss_one (ps_ret pe_bl)) pss_nil)
   (pss_cons (ps_setC (i:=2) (Nc:=["place","one","two"]) (mp:=[none,some 0,some 1]) rfl scLooks.nd rfl rfl (CompOk.of (by rfl)) (pi_range1 (by rfl) mrange (pa_cons (pe_callB call_len_str (by rfl) mlen PySem.boot_len (pa_cons (pv 0) pa_nil)) pa_nil))
    (fun cl C s H fp=>⟨pg_name (i:=0) nd_Looks rfl (Or.inl rfl),pts_one (pt_cmpR op_ne (pe_ix ix_str (pv 1) (pv 0) (fun _ _=>rfl)) (pe_ix ix_str (pv 2) (pv 0) (fun _ _=>rfl)) (nomark _)),pv 0⟩))
   (pss_one (ps_ret (pe_cmpR op_eq (pe_callB call_len_seq (by rfl) mlen PySem.boot_len (pa_cons (pv 2) pa_nil)) pe_int (nomark _))))),?_⟩
  refine ⟨_,rfl,a,rfl,ha,_,rfl,b,rfl,hb,rfl,_,rfl,?_⟩
  by_cases hl:a.length=b.length
  ·refine iteNS (by rw [hl]) ?_
   refine ⟨_,rfl,a,rfl,ha,(a.length:Int),rfl,(by omega),(by have:=szl;omega),?_⟩
   rw [Int.toNat_natCast]
   refine comp_pure (as:=List.range a.length) (v:=fun i=>.int (0+(i:Nat))) (fun i=>!decide (a.cps.toList[i]?=b.cps.toList[i]?)) (fun i=>.int (0+(i:Nat))) (src_range 0 a.length H) (by rw [List.length_range];exact ha) (fun i hi k hk=>?_) (fun i hi _ k hk=>?_) (fun D hD=>?_)
   ·have hi':=List.mem_range.mp hi
    have ea:a.cps.toList[i]?=some a.cps.toList[i]:=List.getElem?_eq_getElem (by rw [clen];exact hi')
    have eb:b.cps.toList[i]?=some b.cps.toList[i]:=List.getElem?_eq_getElem (by rw [clen,<-hl];exact hi')
    have ei:(0:Int)+((i:Nat):Int)=((i:Nat):Int):=by omega
    refine ⟨_,rfl,_,rfl,a,_,a.cps.toList[i],rfl,rfl,ha,(by rw [ei];exact atI_nat ea),_,rfl,_,rfl,b,_,b.cps.toList[i],rfl,rfl,hb,(by rw [ei];exact atI_nat eb),rfl,_,rfl,?_⟩
    have e:(!decide (V.str ⟨#[a.cps.toList[i]]⟩=V.str ⟨#[b.cps.toList[i]]⟩))=(!decide (a.cps.toList[i]?=b.cps.toList[i]?)):=by
     rw [ea,eb]
     congr 1
     exact decide_eq_decide.mpr ⟨fun z=>by injection z with z;injection z with z;simpa using z,fun z=>by rw [Option.some.inj z]⟩
    rw [e];exact hk
   ·exact ⟨_,rfl,hk⟩
   ·refine ⟨_,rfl,D,_,rfl,.inl (SqL.of upd_same),rfl,hq _ _ (Rst.same (same_upd hD) ?_)⟩
    rw [List.length_map]
    have e:decide (V.int (((List.range a.length).filter fun i=>!decide (a.cps.toList[i]?=b.cps.toList[i]?)).length:Nat)=V.int 1)=alikeB a.cps.toList b.cps.toList:=by
     unfold alikeB placesB
     rw [if_pos (by rw [clen,clen];exact hl),clen]
     exact decide_eq_decide.mpr ⟨fun z=>by injection z with z;omega,fun z=>by rw [z];rfl⟩
    rw [e];exact q
  ·refine ite2 (fun _=>?_) (fun h=>?_)
   ·refine hq _ _ (Rst.same (Same.refl H) ?_)
    have e:alikeB a.cps.toList b.cps.toList=false:=by
     unfold alikeB
     rw [if_neg (by rw [clen,clen];exact hl)]
    rw [<-e];exact q
   ·exfalso
    refine h ?_
    rw [decide_eq_false (fun z=>hl (by injection z with z;omega))];rfl
structure Places (w:World) (K:PySem.W.Frag) (a:Addr) (es:Array DictEntry) (n:Nat):Prop where
 at_:K.lookup a=some ⟨.type "dict",none,.dict es n,#[]⟩
 keys:PySem.W.KeysLit w.params es.toList
 p1:∃ t,PySem.W.nsIn K a "turn" = some (some (.int 1 t))
 p2:∃ t,PySem.W.nsIn K a "lose" = some (some (.int 2 t))
 p3:∃ t,PySem.W.nsIn K a "add" = some (some (.int 3 t))
 p4:∃ t,PySem.W.nsIn K a "twice" = some (some (.int 4 t))
 p5:∃ t,PySem.W.nsIn K a "swap" = some (some (.int 5 t))
 p6:∃ t,PySem.W.nsIn K a "skip" = some (some (.int 6 t))
def gI (pr:List Int) (i:Nat):Int:=(pr[i]?).getD 0
theorem at_p {pr:List Int} {i:Nat} (h:i < pr.length):atI (pr.map V.int) (i:Int)=some (.int (gI pr i)):=atI_nat (by rw [List.getElem?_map,List.getElem?_eq_getElem h];unfold gI;rw [List.getElem?_eq_getElem h];rfl)
def price (es:List Str) (d:Nat) (pr:List Int):Sk->Int
 | .keep=>0
 | .turn z=>if alikeB (gt es d).cps.toList z.cps.toList=true then gI pr 0 else gI pr 1
 | .lose=>gI pr 2
 | .add _=>gI pr 3
 | .twice=>gI pr 4
 | .swap=>gI pr 5
 | .skip _=>gI pr 6
def turnOk (es:List Str) (d:Nat):Sk->Prop
 | .turn _=>d < es.length
 | _=>True
def spPrice (K:PySem.W.Frag):Sp:=fun vs H Q _=>∃ (p t q:Addr) (es:List Str) (d:Nat) (st:Sk) (pr:List Int),vs=[.ref p,.int (d:Nat),.ref t,.ref q]/\SqT K H p (es.map V.str)/\(∀ z ∈ es,Good z)/\SqT K H t (stepV st)/\okS st/\turnOk es d st/\SqT K H q (pr.map V.int)/\pr.length=7/\Q (.int (price es d pr st)) H
theorem scPrice:FnScope ["elder","done","step","prices","kind"] ["elder","done","step","prices"] (defScope sPrice):=⟨rfl,rfl,rfl,by decide +kernel,rfl,by decide +kernel,by decide +kernel⟩
theorem ok_price {f gL aD:Addr} {fd dL:FuncData} {esD:Array DictEntry} {nD:Nat} (F:Fun K "step_price" "step_price" sPrice f fd) (DL:Dfn K mg "looks_alike" sLooks gL dL ["one","two"]) (GL:FnOk P w K mg base CX0 1 gL dL ["one","two"] spAlike)
  {tl:Tok} (mL:mg "LIKE" = some (.int 0 tl)) (mP:mg "PRICE_PLACES" = some (.ref aD)) (PL:Places w K aD esD nD):FnOk P w K mg base CX0 2 f fd ["elder","done","step","prices"] (spPrice K):=by
 refine Fun.okR F scPrice (fun vs H Q E h=>?_) (fun cdv A outer s H vs Q Q2 E hr h hq=>?_)
 ·obtain ⟨p,t,q,es,d,st,pr,rfl,_⟩:=h
  rfl
 ·obtain ⟨p,t,r,es,d,st,pr,rfl,hp,hg,ht,hok,hto,hpr,hl7,q⟩:=h
  refine ⟨_,pss_cons (ps_set (i:=4) scPrice.nd rfl (Or.inl rfl) (pe_ix ix_tup (pv 2) pe_int (fun _ _=>rfl)))
   (pss_cons (ps_if (pt_cmpR op_eq (pv 4) pe_str (nomark _)) (pss_one (ps_ret pe_int)) pss_nil)
   (pss_cons (ps_if (pw_and (pt_cmpR op_eq (pv 4) pe_str (nomark _)) (pw_and1 (pt_val (pe_call GL hr (by rfl) DL.at_ DL.fn.kp DL.bn .nil pass0 (pa_cons (pe_ix ix_tup (pv 0) (pv 1) (fun _ _=>rfl)) (pa_cons (pe_ix ix_tup (pv 2) pe_int (fun _ _=>rfl)) pa_nil)))))).pt
    (pss_one (ps_ret (pe_ix ix_tup (pv 3) (pe_glob (v:=.int 0) (by rfl) mL ⟨_,rfl⟩) (fun _ _=>rfl)))) pss_nil)
   (pss_one (ps_ret (pe_ix ix_tup (pv 3) (pe_ix (ix_dictM rfl PL.at_ PL.keys) (pe_glob (v:=.ref aD) (by rfl) mP rfl) (pv 4) (fun _ _=>rfl)) (fun _ _=>rfl)))))),?_⟩
  have go:∀ i,price es d pr st=i->Q2 (.int i) H:=fun i e=>hq _ _ (Rst.same (Same.refl H) (by rw [<-e];exact q))
  obtain ⟨t1,P1⟩:=PL.p1
  obtain ⟨t2,P2⟩:=PL.p2
  obtain ⟨t3,P3⟩:=PL.p3
  obtain ⟨t4,P4⟩:=PL.p4
  obtain ⟨t5,P5⟩:=PL.p5
  obtain ⟨t6,P6⟩:=PL.p6
  cases st with
  | keep=>exact ⟨_,rfl,t,_,_,_,rfl,rfl,ht,rfl,_,rfl,rfl,_,rfl,iteY rfl (go _ rfl)⟩
  | turn z=>
   have hd:d < es.length:=hto
   refine ⟨_,rfl,t,_,_,_,rfl,rfl,ht,rfl,?_⟩
   refine ⟨_,rfl,rfl,_,rfl,iteK (by decide +kernel) ?_⟩
   refine ⟨_,rfl,rfl,_,rfl,iteY rfl ?_⟩
   refine ⟨_,rfl,_,rfl,p,_,_,_,rfl,rfl,hp,at_w hd,_,rfl,t,_,_,_,rfl,rfl,ht,rfl,_,_,rfl,(hg _ (gt_mem hd)).small,Good.small hok,_,rfl,?_⟩
   cases hb:alikeB (gt es d).cps.toList z.cps.toList with
   | true=>exact iteT ⟨_,rfl,r,_,_,_,rfl,rfl,hpr,at_p (i:=0) (by omega),go _ (by show (if alikeB (gt es d).cps.toList z.cps.toList=true then _ else _)=_;rw [hb];rfl)⟩
   | false=>exact iteF ⟨_,rfl,_,rfl,_,.int 1,_,rfl,rfl,P1,⟨_,rfl⟩,r,_,_,_,rfl,rfl,hpr,at_p (i:=1) (by omega),go _ (by show (if alikeB (gt es d).cps.toList z.cps.toList=true then _ else _)=_;rw [hb];rfl)⟩
  | lose=>
   refine ⟨_,rfl,t,_,_,_,rfl,rfl,ht,rfl,_,rfl,rfl,_,rfl,iteK (by decide +kernel) ⟨_,rfl,rfl,_,rfl,iteK (by decide +kernel) (iteF ?_)⟩⟩
   exact ⟨_,rfl,_,rfl,_,.int 2,_,rfl,rfl,P2,⟨_,rfl⟩,r,_,_,_,rfl,rfl,hpr,at_p (i:=2) (by omega),go _ rfl⟩
  | add z=>
   refine ⟨_,rfl,t,_,_,_,rfl,rfl,ht,rfl,_,rfl,rfl,_,rfl,iteK (by decide +kernel) ⟨_,rfl,rfl,_,rfl,iteK (by decide +kernel) (iteF ?_)⟩⟩
   exact ⟨_,rfl,_,rfl,_,.int 3,_,rfl,rfl,P3,⟨_,rfl⟩,r,_,_,_,rfl,rfl,hpr,at_p (i:=3) (by omega),go _ rfl⟩
  | twice=>
   refine ⟨_,rfl,t,_,_,_,rfl,rfl,ht,rfl,_,rfl,rfl,_,rfl,iteK (by decide +kernel) ⟨_,rfl,rfl,_,rfl,iteK (by decide +kernel) (iteF ?_)⟩⟩
   exact ⟨_,rfl,_,rfl,_,.int 4,_,rfl,rfl,P4,⟨_,rfl⟩,r,_,_,_,rfl,rfl,hpr,at_p (i:=4) (by omega),go _ rfl⟩
  | swap=>
   refine ⟨_,rfl,t,_,_,_,rfl,rfl,ht,rfl,_,rfl,rfl,_,rfl,iteK (by decide +kernel) ⟨_,rfl,rfl,_,rfl,iteK (by decide +kernel) (iteF ?_)⟩⟩
   exact ⟨_,rfl,_,rfl,_,.int 5,_,rfl,rfl,P5,⟨_,rfl⟩,r,_,_,_,rfl,rfl,hpr,at_p (i:=5) (by omega),go _ rfl⟩
  | skip m=>
   refine ⟨_,rfl,t,_,_,_,rfl,rfl,ht,rfl,_,rfl,rfl,_,rfl,iteK (by decide +kernel) ⟨_,rfl,rfl,_,rfl,iteK (by decide +kernel) (iteF ?_)⟩⟩
   exact ⟨_,rfl,_,rfl,_,.int 6,_,rfl,rfl,P6,⟨_,rfl⟩,r,_,_,_,rfl,rfl,hpr,at_p (i:=6) (by omega),go _ rfl⟩
def cost (es:List Str) (pr:List Int) (pl:List Nat) (sts:List Sk):Int:=((pl.zip sts).map fun x=>price es x.1 pr x.2).sum
theorem cost_snoc {es:List Str} {pr:List Int} {pl:List Nat} {sts:List Sk} {d:Nat} {st:Sk} (h:pl.length=sts.length):cost es pr (pl++[d]) (sts++[st])=cost es pr pl sts+price es d pr st:=by
 unfold cost
 rw [List.zip_append h,List.map_append,List.sum_append]
 simp
theorem walk_pre {es:List Str} {sts:List Sk} {x y:WS} (k:Nat) (h:walk es sts x=some y):∃ y',walk es (sts.take k) x=some y':=by
 have e:sts=sts.take k++sts.drop k:=(List.take_append_drop k sts).symm
 rw [e,walk_append] at h
 cases hw:walk es (sts.take k) x with
 | none=>rw [hw] at h;cases h
 | some y'=>exact ⟨y',rfl⟩
theorem after_turn {es:List Str} {d:Nat} {last:Option Str} {st:Sk} {y:Nat × List Str} (h:after es d last st=some y):turnOk es d st:=by
 unfold after at h
 split at h
 ·rename_i hf
  cases st with
  | turn z=>show d < es.length;exact of_decide_eq_true (Bool.and_eq_true_iff.mp hf).1
  | _=>trivial
 ·cases h
theorem walk_at {es:List Str} {sts:List Sk} {i:Nat} {st:Sk} {d:Nat} {cp:List Str} {pl:List Nat} {y:WS} (hs:walk es sts (0,[],[])=some y) (hi:sts[i]?=some st) (hw:walk es (sts.take i) (0,[],[])=some (d,cp,pl)) :
  ∃ d' ws,after es d cp.getLast? st=some (d',ws)/\walk es (sts.take (i+1)) (0,[],[])=some (d',cp++ws,pl++[d]):=by
 obtain ⟨y',hy⟩:=walk_pre (i+1) hs
 have wt:=walk_turn hi hw
 rw [hy] at wt
 cases ha:after es d cp.getLast? st with
 | none=>rw [ha] at wt;cases wt
 | some z=>
  rw [ha] at wt
  exact ⟨z.1,z.2,rfl,by rw [hy];exact wt⟩
theorem pg_tupK {X:Cx} {es:List Expr} {k:Nat} {t:TGs} {n:Nat} {pos:Pos} (hK:X.K=K) (hc:X.calm=true) (h:PGs X es t)
  (hn:(assignEach es X.env).length=n:=by rfl) (hst:(assignEach es X.env).findIdx? (·.1)=none:=by rfl):PG X (.Tuple es k pos) (gTup K n t):=by
 subst hK
 exact pg_tup hc h hn hst
theorem pi_zipK {X:Cx} {es:List Expr} {x1:Nat} {tpos:Pos} {a b:Expr} {ta:TA} {p pos:Pos} (hK:X.K=K) (hg:Gl X "zip") (hm:X.mg "zip" = none) (ha:PA X [a,b] ta) (hs:starEach [a,b] X.env=[(false,eval a X.env),(false,eval b X.env)]:=by rfl) (hs2:starEach [b] X.env=[(false,eval b X.env)]:=by rfl) :
  PI X (.Tuple es x1 tpos) (.Call (.Name "zip" p) [a,b] [] pos) (iZip K ta):=by
 subst hK
 exact pi_zip hg hm ha hs hs2
def spCost (K:PySem.W.Frag) (C:Addr):Sp:=fun vs H Q E=>∃ (p q r:Addr) (es:List Str) (ts:List Addr) (sts:List Sk) (pr:List Int),vs=[.ref p,.ref q,.ref r]/\SqT K H p (es.map V.str)/\(∀ z ∈ es,Good z)/\SqT K H q (ts.map V.ref)/\StepsAt K H ts sts/\sts.length<=1000/\SqT K H r (pr.map V.int)/\pr.length=7 ∧
 match made es sts with
 | some (_,pl)=>Q (.int (cost es pr pl sts)) H
 | none=>E (.ref C) none H
theorem walk_made {es:List Str} {sts:List Sk} {cp:List Str} {pl:List Nat} (h:made es sts=some (cp,pl)):∃ d,walk es sts (0,[],[])=some (d,cp,pl):=by
 unfold made at h
 cases hw:walk es sts (0,[],[]) with
 | none=>rw [hw] at h;cases h
 | some x=>
  rw [hw,Option.bind_some] at h
  split at h
  ·cases h
  ·cases h
   exact ⟨x.1,rfl⟩
theorem walk_places {es:List Str} {sts:List Sk} {y:WS} (h:walk es sts (0,[],[])=some y):∀ i,i<=sts.length->∃ d cp,walk es (sts.take i) (0,[],[])=some (d,cp,y.2.2.take i)/\(y.2.2.take i).length=i:=by
 have main:∀ i,i<=sts.length->∃ d cp pl,walk es (sts.take i) (0,[],[])=some (d,cp,pl)/\pl.length=i:=fun i=>by
  induction i with
  | zero=>exact fun _=>⟨0,[],[],rfl,rfl⟩
  | succ i ih=>
   intro hi
   obtain ⟨d,cp,pl,hw,hl⟩:=ih (by omega)
   obtain ⟨d',ws,_,hw'⟩:=walk_at h (List.getElem?_eq_getElem (show i < sts.length by omega)) hw
   exact ⟨d',_,_,hw',by rw [List.length_append,hl];rfl⟩
 have grow:∀ (r:List Sk) (x z:WS),walk es r x=some z->∃ m,z.2.2=x.2.2++m:=fun r=>by
  induction r with
  | nil=>intro x z e;cases e;exact ⟨[],by simp⟩
  | cons st r ih=>
   intro x z e
   have e':(walk1 es x st).bind (walk es r)=some z:=e
   cases hw:walk1 es x st with
   | none=>rw [hw] at e';cases e'
   | some x'=>
    rw [hw,Option.bind_some] at e'
    obtain ⟨m,em⟩:=ih x' z e'
    unfold walk1 at hw
    cases ha:after es x.1 x.2.1.getLast? st with
    | none=>rw [ha] at hw;cases hw
    | some u=>
     rw [ha] at hw
     cases hw
     exact ⟨[x.1]++m,by rw [em];simp⟩
 intro i hi
 obtain ⟨d,cp,pl,hw,hl⟩:=main i hi
 have e:sts=sts.take i++sts.drop i:=(List.take_append_drop i sts).symm
 rw [e,walk_append,hw,Option.bind_some] at h
 obtain ⟨m,em⟩:=grow _ _ _ h
 have e2:y.2.2.take i=pl:=by rw [em];show (pl++m).take i=pl;rw [<-hl];simp
 exact ⟨d,cp,by rw [e2];exact hw,by rw [e2];exact hl⟩
theorem yes_ (σ:L2.St) (H:Hp) (k:Bool->Hp->Prop) (h:k true H):tYes σ H k:=h
theorem scCost:FnScope ["elder","steps","prices","places"] ["elder","steps","prices"] (defScope sCost):=⟨rfl,rfl,rfl,by decide +kernel,rfl,by decide +kernel,by decide +kernel⟩
theorem nd_dsep:(["done","step","elder","prices"]:List Str).Nodup:=by decide +kernel
theorem ok_cost {f gW gP C:Addr} {fd dW dP:FuncData} (F:Fun K "slips_price" "slips_price" sCost f fd) (DW:Dfn K mg "steps_walked" sWalk gW dW ["elder","steps"]) (GW:FnOk P w K mg base (CXv P w) 4 gW dW ["elder","steps"] (spWalk K C)) (DP:Dfn K mg "step_price" sPrice gP dP ["elder","done","step","prices"]) (GP:FnOk P w K mg base CX0 4 gP dP ["elder","done","step","prices"] (spPrice K))
  (msum:mg "sum" = none) (mzip:mg "zip" = none):FnOk P w K mg base (CXv P w) 5 f fd ["elder","steps","prices"] (spCost K C):=by
 refine Fun.okXR F scCost (fun vs H Q E h=>?_) (fun cdv A outer s H vs Q Q2 E E2 hr h hq hE=>?_)
 ·obtain ⟨p,q,r,es,ts,sts,pr,rfl,_⟩:=h
  rfl
 ·obtain ⟨p,q0,r,es,ts,sts,pr,rfl,hp,hg,hts,hst,hsl,hpr,hl7,q⟩:=h
  refine ⟨_,pss_cons (ps_set (i:=3) scCost.nd rfl (Or.inl rfl) (pe_ix ix_tup (pe_call GW hr (by rfl) DW.at_ DW.fn.kp DW.bn .nil passes_def (pa_cons (pv 0) (pa_cons (pv 1) pa_nil))) pe_int (fun _ _=>rfl)))
   (pss_one (ps_ret (pe_callB (call_sum rfl) (by rfl) msum boot_sum (pa_cons (pe_comp (Nc:=["done","step","elder","prices"]) (mp:=[none,none,some 0,some 2]) rfl (CompOk.of (by rfl)) (pi_zipK (K:=K) rfl (by rfl) mzip (pa_cons (pv 3) (pa_cons (pv 1) pa_nil)))
    (fun cl C s H fp=>⟨pg_tupK (K:=K) (n:=2) rfl rfl (pgs_cons (pg_name (i:=0) nd_dsep rfl (Or.inl rfl)) (pgs_cons (pg_name (i:=1) nd_dsep rfl (Or.inl rfl)) pgs_nil)),pts_nil,pe_call GP hr (by rfl) DP.at_ DP.fn.kp DP.bn .nil pass0 (pa_cons (pv 2) (pa_cons (pv 0) (pa_cons (pv 1) (pa_cons (pv 3) pa_nil))))⟩)) pa_nil)))),?_⟩
  refine ⟨_,rfl,_,rfl,p,q0,es,ts,sts,rfl,hp,hts,hst,hsl,?_⟩
  cases hm:made es sts with
  | none=>
   rw [hm] at q
   exact hE _ _ _ (Rst.same (Same.refl H) q)
  | some y=>
   obtain ⟨cp,pl⟩:=y
   rw [hm] at q
   obtain ⟨dE,hwk⟩:=walk_made hm
   intro a b r1 ha hb hr' n1 n2 n3
   have s1:=same_upd (o:=.tup (cp.map V.str)) ha
   have s2:=same_upd (o:=.tup (pl.map nV)) (show upd H a (.tup (cp.map V.str)) b=none by rw [upd_ne n1];exact hb)
   have s3:=same_upd (o:=.tup [.ref a,.ref b]) (show upd (upd H a (.tup (cp.map V.str))) b (.tup (pl.map nV)) r1=none by rw [upd_ne n3,upd_ne n2];exact hr')
   refine ⟨r1,_,_,_,rfl,rfl,SqT.of upd_same,rfl,?_⟩
   have hb':=s3 _ _ (upd_same (H:=upd H a (.tup (cp.map V.str))) (a:=b) (o:=.tup (pl.map nV)))
   have S0:=(s1.trans s2).trans s3
   generalize hH1:upd (upd (upd H a (.tup (cp.map V.str))) b (.tup (pl.map nV))) r1 (.tup [.ref a,.ref b])=H1 at S0 hb'
   have hpll:pl.length=sts.length:=by
    obtain ⟨_,_,_,hl⟩:=walk_places hwk sts.length (Nat.le_refl _)
    have hw0:=hwk
    obtain ⟨d',cp',hw',hl'⟩:=walk_places hwk sts.length (Nat.le_refl _)
    rw [List.take_length,hwk] at hw'
    have e:pl=pl.take sts.length:=by
     have:=(Prod.mk.inj (Prod.mk.inj (Option.some.inj hw')).2).2
     exact this
    rw [e];exact hl'
   refine ⟨_,rfl,_,rfl,b,q0,rfl,⟨_,SqT.of hb'⟩,⟨_,sameT S0 hts⟩,?_⟩
   refine ⟨fun i m σ acc H2=>i<=sts.length/\m=sts.length - i/\acc=(((pl.zip sts).take i).map fun x=>V.int (price es x.1 pr x.2))/\Same H1 H2/\∃ o1 o2,σ=[o1,o2,some (.ref p),some (.ref r)],⟨sts.length,Nat.zero_le _,rfl,rfl,Same.refl _,none,none,rfl⟩,?_⟩
   rintro i m σ acc H2 ⟨hi,rfl,rfl,S,o1,o2,rfl⟩
   have hzl:(pl.zip sts).length=sts.length:=by rw [List.length_zip,hpll];omega
   have hacc:(((pl.zip sts).take i).map fun x=>V.int (price es x.1 pr x.2)).length=i:=by rw [List.length_map,List.length_take,hzl];omega
   have hb2:=S _ _ hb'
   have hts2:=sameT (S0.trans S) hts
   by_cases hlt:i < sts.length
   ·refine .inr ⟨⟨_,_,nV (pl[i]'(by omega)),.ref (ts[i]'(by rw [hst.len];exact hlt)),SqT.of hb2,hts2,?_,?_⟩,?_⟩
    ·rw [List.getElem?_map,List.getElem?_eq_getElem (show i < pl.length by omega)];rfl
    ·rw [List.getElem?_map,List.getElem?_eq_getElem (show i < ts.length by rw [hst.len];exact hlt)];rfl
    ·rintro x H3 ⟨T,u,v,rfl,hT,rfl,huv⟩
     obtain ⟨eu,ev⟩:=huv _ _ (SqT.of hb2) hts2
     obtain ⟨t,hti,rfl⟩:=ref_at ev
     have hsi:sts[i]?=some sts[i]:=List.getElem?_eq_getElem hlt
     have hpi:pl[i]?=some (pl[i]'(by omega)):=List.getElem?_eq_getElem (by omega)
     rw [List.getElem?_map,hpi] at eu
     have eu':nV (pl[i]'(by omega))=u:=Option.some.inj eu
     subst eu'
     obtain ⟨hT1,hO⟩:=hst.item i t _ hti hsi
     have S2:=same_upd (o:=.tup [nV (pl[i]'(by omega)),.ref t]) hT
     have SS:=(S0.trans S).trans S2
     have hto:turnOk es (pl[i]'(by omega)) sts[i]:=by
      obtain ⟨d1,cp1,hw1,hl1⟩:=walk_places hwk i hi
      obtain ⟨d',ws,hA,hw'⟩:=walk_at hwk hsi hw1
      obtain ⟨d2,cp2,hw2,hl2⟩:=walk_places hwk (i+1) hlt
      rw [hw'] at hw2
      have e:=(Prod.mk.inj (Prod.mk.inj (Option.some.inj hw2)).2).2
      have e3:(pl.take i++[d1])[i]?=(pl.take (i+1))[i]?:=by rw [show pl.take i++[d1]=pl.take (i+1) from e]
      rw [List.getElem?_append_right (by rw [List.length_take];omega),List.getElem?_take_of_lt (by omega),hpi] at e3
      have e4:i - (pl.take i).length=0:=by rw [List.length_take];omega
      rw [e4] at e3
      have e5:d1=pl[i]'(by omega):=by simpa using e3
      rw [<-e5]
      exact after_turn hA
     refine ⟨T,_,rfl,SqT.of upd_same,rfl,_,_,rfl,_,_,rfl,rfl,?_⟩
     refine yes_ _ _ _ ?_
     rw [if_pos rfl]
     refine ⟨_,rfl,_,rfl,_,rfl,_,rfl,p,t,r,es,_,_,pr,rfl,sameT SS hp,hg,sameT SS hT1,hO,hto,sameT SS hpr,hl7,?_⟩
     refine ⟨by rw [hacc];exact fewer (by omega),sts.length - (i+1),by omega,hlt,rfl,?_,S.trans S2,_,_,rfl⟩
     rw [List.take_succ_eq_append_getElem (by rw [hzl];exact hlt),List.map_append,List.getElem_zip]
     rfl
   ·have ei:i=sts.length:=by omega
    subst ei
    refine .inl ⟨⟨_,_,SqT.of hb2,hts2,.inl (by rw [List.length_map,hpll];exact Nat.le_refl _)⟩,by rw [hacc];exact few (by omega),fun D hD=>?_⟩
    have q':Q (.int ((pl.zip sts).map fun x:Nat × Sk=>price es x.1 pr x.2).sum) H:=q
    refine ⟨D,(pl.zip sts).map fun x:Nat × Sk=>price es x.1 pr x.2,rfl,SqL.of ?_,hq _ _ (Rst.same ((S0.trans S).trans (same_upd hD)) q')⟩
    rw [upd_same,<-hzl,List.take_length,List.map_map]
    rfl
theorem row_none (n:Nat):rowV n (fun _=>none)=List.replicate (n+1) .non:=by
 unfold rowV
 rw [show (fun j:Nat=>ov ((fun _=>none:Nat->Option Int) j))=fun _=>V.non from rfl,List.map_const',List.length_range]
def spEmp (K:PySem.W.Frag):Sp:=fun vs H Q _=>∃ (p q:Addr) (es cs:List V),vs=[.ref p,.ref q]/\SqT K H p es/\SqT K H q cs/\es.length<=1000/\cs.length<=1000 ∧
 ∀ (H':Hp) (l:Addr) (rs:List Addr),Same H H'->H l=none->(∀ r ∈ rs,H r=none)->TabAt H' l rs es.length cs.length (fun _ _=>none)->Q (.ref l) H'
theorem scEmp:FnScope ["elder","copy"] ["elder","copy"] (defScope sEmp):=⟨rfl,rfl,rfl,by decide +kernel,rfl,by decide +kernel,by decide +kernel⟩
theorem nd_ic:(["i","copy"]:List Str).Nodup:=by decide +kernel
theorem ok_emp {f:Addr} {fd:FuncData} (F:Fun K "empty_table" "empty_table" sEmp f fd) (mlen:mg "len" = none) (mrange:mg "range" = none):FnOk P w K mg base CX0 1 f fd ["elder","copy"] (spEmp K):=by
 refine F.ok scEmp (fun vs H Q E h=>?_) (fun cdv A outer s H vs Q E hr h=>?_)
 ·obtain ⟨p,q,es,cs,rfl,_⟩:=h
  rfl
 ·obtain ⟨p,q0,es,cs,rfl,hp,hc,hel,hcl,q⟩:=h
  refine ⟨_,pss_one (ps_ret (pe_comp (Nc:=["i","copy"]) (mp:=[none,some 1]) rfl (CompOk.of (by rfl)) (pi_range1 (by rfl) mrange (pa_cons (pe_op op_add (pe_callB call_len_seq (by rfl) mlen PySem.boot_len (pa_cons (pv 0) pa_nil)) pe_int) pa_nil))
   (fun cl C s H fp=>⟨pg_name (i:=0) nd_ic rfl (Or.inl rfl),pts_nil,pe_op op_mulL (pe_lst (pa_cons pe_non pa_nil)) (pe_op op_add (pe_callB (call_len_seqK (K:=K) rfl) (by rfl) mlen PySem.boot_len (pa_cons (pv 1) pa_nil)) pe_int)⟩))),?_⟩
  refine ⟨_,rfl,p,_,rfl,.inr hp,_,_,rfl,rfl,_,rfl,by omega,by omega,?_⟩
  have en:((es.length:Int)+1).toNat=es.length+1:=by omega
  rw [en]
  refine comp_grow (as:=List.range (es.length+1)) (v:=fun k=>.int (0+((k:Nat):Int))) (fun i acc H'=>∃ rs:List Addr,acc=rs.map V.ref/\rs.length=i/\(∀ r ∈ rs,H' r=some (.lst (rowV cs.length fun _=>none)))/\rs.Nodup/\(∀ r ∈ rs,H r=none)/\Same H H')
   (fun i acc H' _ _=>src_range 0 (es.length+1) H') (by rw [List.length_range];exact few (by omega)) ⟨[],rfl,rfl,(fun _ z=>nomatch z),.nil,(fun _ z=>nomatch z),Same.refl _⟩ (fun i acc H' ⟨rs,e,hl,_⟩=>by rw [e,List.length_map,hl]) ?_ ?_
  ·rintro i k acc H' hk ⟨rs,rfl,hl,hrow,hnd,hfr,S⟩ kk hkk
   refine ⟨few (by show 1<=_;omega),fun t ht=>?_⟩
   have T1:=same_upd (o:=.lst [.non]) ht
   refine ⟨_,rfl,q0,_,rfl,.inr (sameT (S.trans T1) hc),_,_,rfl,rfl,t,.non,cs.length+1,rfl,(by congr 1),upd_same,by omega,fun r hr0=>?_⟩
   have T2:=same_upd (o:=.lst (List.replicate (cs.length+1) .non)) hr0
   have hr1:H' r=none:=T1.free hr0
   refine hkk _ _ ⟨rs++[r],by rw [List.map_append];rfl,by rw [List.length_append,hl];rfl,?_,?_,?_,(S.trans T1).trans T2⟩
   ·intro y hy
    rcases List.mem_append.mp hy with hy | hy
    ·exact T2 _ _ (T1 _ _ (hrow y hy))
    ·rw [List.mem_singleton.mp hy,upd_same,row_none]
   ·refine List.nodup_append.mpr ⟨hnd,(List.pairwise_singleton _ _),fun a ha b hb=>?_⟩
    rw [List.mem_singleton.mp hb]
    intro e
    rw [e] at ha
    rw [hrow r ha] at hr1
    cases hr1
   ·intro y hy
    rcases List.mem_append.mp hy with hy | hy
    ·exact hfr y hy
    ·rw [List.mem_singleton.mp hy];exact S.free hr1
  ·rintro acc H' ⟨rs,rfl,hl,hrow,hnd,hfr,S⟩ D hD
   rw [List.length_range] at hl
   have SD:=same_upd (o:=.lst (rs.map V.ref)) hD
   refine q _ D rs (S.trans SD) (S.free hD) hfr ⟨upd_same,hl,fun i r e=>SD _ _ (hrow r (List.mem_of_getElem? e)),hnd,fun z=>?_⟩
   rw [hrow D z] at hD
   cases hD
def spTld (K:PySem.W.Frag):Sp:=fun vs H Q _=>∃ (l:Addr) (rs:List Addr) (m n:Nat) (T:Tb),vs=[.ref l]/\TabAt H l rs m n T/\m<=1000 ∧
 ∀ (H':Hp) (p:Addr) (ps:List Addr),Same H H'->H' p=some (.tup (ps.map V.ref))->ps.length=m+1->(∀ i q,ps[i]?=some q->H' q=some (.tup (rowV n (T i))))->Q (.ref p) H'
theorem scTld:FnScope ["table"] ["table"] (defScope sTld):=⟨rfl,rfl,rfl,by decide +kernel,rfl,by decide +kernel,by decide +kernel⟩
theorem nd_row:(["row"]:List Str).Nodup:=by decide +kernel
theorem call_tuple_ofK {X:Cx} {K:PySem.W.Frag} (hK:X.K=K):CallR X (.type "tuple") (fun xs H Q=>∃ p ys,xs=[.ref p]/\((SqL K H p ys/\∀ l,H l=none->Q (.ref l) (upd H l (.tup ys)))\/(SqT K H p ys/\Q (.ref p) H))):=by subst hK;exact call_tuple_of
theorem ok_tld {f:Addr} {fd:FuncData} (F:Fun K "table_told" "table_told" sTld f fd) (mtuple:mg "tuple" = none):FnOk P w K mg base CX0 1 f fd ["table"] (spTld K):=by
 refine F.ok scTld (fun vs H Q E h=>?_) (fun cdv A outer s H vs Q E hr h=>?_)
 ·obtain ⟨l,rs,m,n,T,rfl,_⟩:=h
  rfl
 ·obtain ⟨l,rs,m,n,T,rfl,hT,hm,q⟩:=h
  refine ⟨_,pss_one (ps_ret (pe_callTy call_tuple_of (by rfl) mtuple boot_tuple (pa_cons (pe_comp (Nc:=["row"]) (mp:=[none]) rfl (CompOk.of (by rfl)) (pi_list (pv 0))
   (fun cl C s H fp=>⟨pg_name (i:=0) nd_row rfl (Or.inl rfl),pts_nil,pe_callTy (call_tuple_ofK (K:=K) rfl) (by rfl) mtuple boot_tuple (pa_cons (pv 0) pa_nil)⟩)) pa_nil))),?_⟩
  refine ⟨_,rfl,l,rfl,⟨_,SqL.of hT.top⟩,comp_grow (as:=rs) (v:=V.ref) (fun i acc H'=>∃ ps:List Addr,acc=ps.map V.ref/\ps.length=i/\(∀ j q,ps[j]?=some q->H' q=some (.tup (rowV n (T j))))/\Same H H')
   (fun i acc H' _ ⟨_,_,_,_,S⟩=>src_list (SqL.of (S _ _ hT.top))) (by rw [hT.len];exact few (by omega)) ⟨[],rfl,rfl,(fun j q z=>by simp at z),Same.refl _⟩ (fun i acc H' ⟨ps,e,hl,_⟩=>by rw [e,List.length_map,hl]) ?_ ?_⟩
  ·rintro i r acc H' hr ⟨ps,rfl,hl,hrow,S⟩ kk hkk
   refine ⟨_,rfl,r,_,rfl,.inl ⟨SqL.of (S _ _ (hT.row i r hr)),fun t ht=>?_⟩⟩
   have T1:=same_upd (o:=.tup (rowV n (T i))) ht
   refine hkk _ _ ⟨ps++[t],by rw [List.map_append];rfl,by rw [List.length_append,hl];rfl,fun j y hy=>?_,S.trans T1⟩
   by_cases hj:j < ps.length
   ·rw [List.getElem?_append_left hj] at hy
    exact T1 _ _ (hrow j y hy)
   ·rw [List.getElem?_append_right (by omega)] at hy
    have hj0:j - ps.length=0:=by
     have:=(List.getElem?_eq_some_iff.mp hy).1
     simp at this
     omega
    rw [hj0] at hy
    simp at hy
    have:j=i:=by omega
    rw [<-hy,upd_same,this]
  ·rintro acc H' ⟨ps,rfl,hl,hrow,S⟩ D hD
   have SD:=same_upd (o:=.lst (ps.map V.ref)) hD
   refine ⟨D,_,rfl,.inl ⟨SqL.of upd_same,fun t ht=>?_⟩⟩
   have St:=same_upd (o:=.tup (ps.map V.ref)) ht
   exact q _ t ps ((S.trans SD).trans St) upd_same (by rw [hl,hT.len]) (fun i y e=>St _ _ (SD _ _ (hrow i y e)))
def spPtab (K:PySem.W.Frag):Sp:=fun vs H Q _=>∃ (p q r:Addr) (es cs:List Str) (pr:List Int),vs=[.ref p,.ref q,.ref r]/\SqT K H p (es.map V.str)/\SqT K H q (cs.map V.str)/\SqT K H r (pr.map V.int)/\(∀ z ∈ es,Good z)/\(∀ z ∈ cs,Good z)/\es.length<=1000/\cs.length<=1000/\pr.length=7 ∧
 ∀ (H':Hp) (t:Addr) (ps:List Addr) (F:Nat->Nat->Int),Same H H'->H' t=some (.tup (ps.map V.ref))->ps.length=es.length+1->(∀ i y,ps[i]?=some y->H' y=some (.tup ((List.range (cs.length+1)).map fun j=>V.int (F i j))))->Least (fun i st=>price es i pr st) es.length cs.length (ways es cs) F->Q (.ref t) H'
theorem scPtab:FnScope ["elder","copy","prices","table","i","j","step","done","written","price"] ["elder","copy","prices"] (defScope sPtab):=⟨rfl,rfl,rfl,by decide +kernel,rfl,by decide +kernel,by decide +kernel⟩
theorem ref_row {as:List Addr} {n:Nat} {f:Nat->Option Int}:as.map V.ref ≠ rowV n f:=by
 intro e
 have h:=congrArg (fun l:List V=>l[0]?) e
 simp only [rowV_at f (Nat.zero_le n),List.getElem?_map] at h
 cases h0:as[0]? with
 | none=>rw [h0] at h;cases h
 | some a=>
  rw [h0] at h
  injection h with h
  cases hf:f 0 with
  | none=>rw [hf] at h;cases h
  | some u=>rw [hf] at h;cases h
theorem ok_ptab {f gE gT gW gP:Addr} {fd dE dT dW dP:FuncData} (F:Fun K "price_table" "price_table" sPtab f fd) (DE:Dfn K mg "empty_table" sEmp gE dE ["elder","copy"]) (DT:Dfn K mg "table_told" sTld gT dT ["table"])
  (DW:Dfn K mg "knot_ways" sWays gW dW ["elder","copy","i","j"]) (GW:FnOk P w K mg base CX0 2 gW dW ["elder","copy","i","j"] (spWays K)) (DP:Dfn K mg "step_price" sPrice gP dP ["elder","done","step","prices"]) (GP:FnOk P w K mg base CX0 2 gP dP ["elder","done","step","prices"] (spPrice K))
  (mlen:mg "len" = none) (mrange:mg "range" = none) (mtuple:mg "tuple" = none):FnOk P w K mg base CX0 3 f fd ["elder","copy","prices"] (spPtab K):=by
 have GE:FnOk P w K mg base CX0 2 gE dE ["elder","copy"] (spEmp K):=(ok_emp DE.fn mlen mrange).mono (by decide)
 have GT:FnOk P w K mg base CX0 2 gT dT ["table"] (spTld K):=(ok_tld DT.fn mtuple).mono (by decide)
 refine F.ok scPtab (fun vs H Q E h=>?_) (fun cdv A outer s H vs Q E hr h=>?_)
 ·obtain ⟨p,q,r,es,cs,pr,rfl,_⟩:=h
  rfl
 ·obtain ⟨p,q0,r0,es,cs,pr,rfl,hp,hc,hpr,hge,hgc,hel,hcl,h7,q⟩:=h
  refine ⟨_,pss_cons (ps_set (i:=3) scPtab.nd rfl (Or.inl rfl) (pe_call GE hr (by rfl) DE.at_ DE.fn.kp DE.bn .nil pass0 (pa_cons (pv 0) (pa_cons (pv 1) pa_nil))))
   (pss_cons (ps_asg pe_int (pg_sub (pe_ix ix_list (pv 3) pe_int (fun _ _=>rfl)) pe_int set_list))
   (pss_cons (ps_for PassesOwn.never rfl (pi_range1 (by rfl) mrange (pa_cons (pe_op op_add (pe_callB call_len_seq (by rfl) mlen PySem.boot_len (pa_cons (pv 0) pa_nil)) pe_int) pa_nil)) (pg_name (i:=4) scPtab.nd rfl (Or.inl rfl))
    (pss_one (ps_for PassesOwn.never rfl (pi_range1 (by rfl) mrange (pa_cons (pe_op op_add (pe_callB call_len_seq (by rfl) mlen PySem.boot_len (pa_cons (pv 1) pa_nil)) pe_int) pa_nil)) (pg_name (i:=5) scPtab.nd rfl (Or.inl rfl))
     (pss_one (ps_for PassesOwn.never rfl (pi_list (pe_call GW hr (by rfl) DW.at_ DW.fn.kp DW.bn .nil pass0 (pa_cons (pv 0) (pa_cons (pv 1) (pa_cons (pv 4) (pa_cons (pv 5) pa_nil)))))) (pg_tup (n:=3) rfl (pgs_cons (pg_name (i:=6) scPtab.nd rfl (Or.inl rfl)) (pgs_cons (pg_name (i:=7) scPtab.nd rfl (Or.inl rfl)) (pgs_cons (pg_name (i:=8) scPtab.nd rfl (Or.inl rfl)) pgs_nil))))
      (pss_cons (ps_set (i:=9) scPtab.nd rfl (Or.inl rfl) (pe_op op_add (pe_ix ix_list (pe_ix ix_list (pv 3) (pv 4) (fun _ _=>rfl)) (pv 5) (fun _ _=>rfl)) (pe_call GP hr (by rfl) DP.at_ DP.fn.kp DP.bn .nil pass0 (pa_cons (pv 0) (pa_cons (pv 4) (pa_cons (pv 6) (pa_cons (pv 2) pa_nil)))))))
      (pss_one (ps_if (pw_or (pt_cmpR op_isN (pe_ix ix_list (pe_ix ix_list (pv 3) (pv 7) (fun _ _=>rfl)) (pv 8) (fun _ _=>rfl)) pe_non (nomark _)) (pw_or1 (pt_cmpR op_lt (pv 9) (pe_ix ix_list (pe_ix ix_list (pv 3) (pv 7) (fun _ _=>rfl)) (pv 8) (fun _ _=>rfl)) (nomark _)))).pt
       (pss_one (ps_asg (pv 9) (pg_sub (pe_ix ix_list (pv 3) (pv 7) (fun _ _=>rfl)) (pv 8) set_list))) pss_nil))))))))
   (pss_one (ps_ret (pe_call GT hr (by rfl) DT.at_ DT.fn.kp DT.bn .nil pass0 (pa_cons (pv 3) pa_nil)))))),?_⟩
  have hle:(es.map V.str).length=es.length:=List.length_map ..
  have hlc:(cs.map V.str).length=cs.length:=List.length_map ..
  refine ⟨_,rfl,_,rfl,p,q0,_,_,rfl,hp,hc,by omega,by omega,fun H0 l rs S0 hlf hrf hT0=>?_⟩
  rw [hle,hlc] at hT0
  obtain ⟨ra,era,ara,hra⟩:=hT0.line (Nat.zero_le _)
  refine ⟨_,rfl,l,_,_,_,rfl,rfl,SqL.of hT0.top,ara,ra,_,_,0,rfl,rfl,hra,ixN_nat (by rw [rowV_len];exact Nat.succ_pos _),?_⟩
  have hT1:=hT0.put (j:=0) 0 era (Nat.zero_le _)
  have S1:Same H (upd H0 ra (.lst ((rowV cs.length ((fun _ _=>none:Tb) 0)).set 0 (.int 0)))):=same_to S0 (hrf ra (List.mem_of_getElem? era))
  generalize upd H0 ra (.lst ((rowV cs.length ((fun _ _=>none:Tb) 0)).set 0 (.int 0)))=H1 at hT1 S1
  refine ⟨_,rfl,p,_,rfl,.inr (sameT S1 hp),_,_,rfl,rfl,_,rfl,by omega,by omega,?_⟩
  rw [hle,show ((es.length:Int)+1).toNat=es.length+1 by omega]
  refine for_range (fun i σ H2=>∃ (T:Tb) (v4 v5 v6 v7 v8 v9:Option V),σ=[some (.ref p),some (.ref q0),some (.ref r0),some (.ref l),v4,v5,v6,v7,v8,v9]/\TabAt H2 l rs es.length cs.length T/\TabI (fun i st=>price es i pr st) (Gone es.length cs.length (ways es cs) i 0 []) T/\Same H H2)
   ⟨_,none,none,none,none,none,none,rfl,hT1,TabI.start,S1⟩ ?_ ?_
  ·rintro i σ H2 hi ⟨T2,v4,v5,v6,v7,v8,v9,rfl,hT2,hI2,S2⟩
   have ei:(0:Int)+((i:Nat):Int)=((i:Nat):Int):=by omega
   rw [ei]
   refine ⟨_,rfl,q0,_,rfl,.inr (sameT S2 hc),_,_,rfl,rfl,_,rfl,by omega,by omega,?_⟩
   rw [hlc,show ((cs.length:Int)+1).toNat=cs.length+1 by omega]
   refine for_range (fun j σ H3=>∃ (T:Tb) (v5 v6 v7 v8 v9:Option V),σ=[some (.ref p),some (.ref q0),some (.ref r0),some (.ref l),some (.int ((i:Nat):Int)),v5,v6,v7,v8,v9]/\TabAt H3 l rs es.length cs.length T/\TabI (fun i st=>price es i pr st) (Gone es.length cs.length (ways es cs) i j []) T/\Same H H3)
    ⟨T2,v5,v6,v7,v8,v9,rfl,hT2,hI2,S2⟩ ?_ ?_
   ·rintro j σ H3 hj ⟨T3,v5,v6,v7,v8,v9,rfl,hT3,hI3,S3⟩
    have ej:(0:Int)+((j:Nat):Int)=((j:Nat):Int):=by omega
    rw [ej]
    obtain ⟨t3,ht3⟩:=hI3.here (ways_come es cs) (by omega) (by omega)
    refine ⟨_,rfl,_,rfl,_,rfl,_,rfl,p,q0,es,cs,i,j,rfl,sameT S3 hp,sameT S3 hc,by omega,by omega,hel,fun H4 lw as S4 hlw hW=>?_⟩
    have hok:=ways_ok (i:=i) (j:=j) (es:=es) hgc hel
    have htn:∀ x ∈ ways es cs i j,turnOk es i x.1:=fun x hx=>by
     cases hx1:x.1 with
     | turn z=>exact ways_turn hx hx1
     | _=>trivial
    have hfw:=ways_fwd es cs i j (by omega) (by omega)
    generalize hws:ways es cs i j=ws at hW hok htn hfw
    refine ⟨lw,rfl,⟨_,SqL.of hlw⟩,for_list (xs:=as.map V.ref) (fun k σ H5=>∃ (T:Tb) (v6 v7 v8 v9:Option V),σ=[some (.ref p),some (.ref q0),some (.ref r0),some (.ref l),some (.int ((i:Nat):Int)),some (.int ((j:Nat):Int)),v6,v7,v8,v9]/\TabAt H5 l rs es.length cs.length T/\TabI (fun i st=>price es i pr st) (Gone es.length cs.length (ways es cs) i j (ws.take k)) T/\T i j=some t3/\H5 lw=some (.lst (as.map V.ref))/\WaysAt H5 as ws/\Same H H5)
     ⟨T3,v6,v7,v8,v9,rfl,hT3.mono S4,by rw [List.take_zero];exact hI3,ht3,hlw,hW,S3.trans S4⟩ (fun k σ H5 _ ⟨_,_,_,_,_,_,_,_,_,h,_⟩=>SqL.of h) ?_ ?_⟩
    ·rintro k v σ H5 hk ⟨T5,v6,v7,v8,v9,rfl,hT5,hI5,ht5,hlw5,hW5,S5⟩
     have hkl:k < as.length:=by have:=(List.getElem?_eq_some_iff.mp hk).1;rwa [List.length_map] at this
     have hkw:k < ws.length:=by rw [<-hW5.len];exact hkl
     rw [List.getElem?_map,List.getElem?_eq_getElem hkl] at hk
     have hv:V.ref as[k]=v:=Option.some.inj hk
     subst hv
     obtain ⟨ts,ha,hts⟩:=hW5.item k as[k] ws[k] (List.getElem?_eq_getElem hkl) (List.getElem?_eq_getElem hkw)
     have hxm:ws[k] ∈ ws:=List.getElem_mem hkw
     have hxm':ws[k] ∈ ways es cs i j:=by rw [hws];exact hxm
     have hx:=hfw _ hxm
     have hxo:=hok _ hxm
     have hxt:=htn _ hxm
     have htake:ws.take k++[ws[k]]=ws.take (k+1):=(List.take_succ_eq_append_getElem hkw).symm
     obtain ⟨hI6,ht6⟩:=hI5.step (ways_fwd es cs) (by omega) (by omega) hxm' ht5
     rw [htake] at hI6
     generalize ws[k]=x at *
     obtain ⟨st,d,wr⟩:=x
     obtain ⟨ri,eri,ari,hri⟩:=hT5.line (i:=i) (by omega)
     obtain ⟨rd,erd,ard,hrd⟩:=hT5.line (i:=d) hx.1
     refine ⟨_,_,rfl,SqT.of ha,rfl,_,_,rfl,_,_,rfl,_,_,rfl,rfl,?_⟩
     refine ⟨_,rfl,_,rfl,l,_,_,_,rfl,rfl,SqL.of hT5.top,ari,_,rfl,ri,_,_,_,rfl,rfl,SqL.of hri,rowV_atI _ (by omega),?_⟩
     rw [ht5]
     refine ⟨_,rfl,_,rfl,_,rfl,_,rfl,p,ts,r0,es,i,st,pr,rfl,sameT S5 hp,hge,SqT.of hts,hxo,hxt,sameT S5 hpr,h7,_,_,rfl,rfl,?_⟩
     refine ⟨_,rfl,_,rfl,l,_,_,_,rfl,rfl,SqL.of hT5.top,ard,_,rfl,rd,_,_,_,rfl,rfl,SqL.of hrd,rowV_atI _ hx.2.1,rfl,_,rfl,?_⟩
     have store:T5.rel (fun i st=>price es i pr st) i j (st,d,wr)=T5.put d wr (t3+price es i pr st)->TabAt (upd H5 rd (.lst ((rowV cs.length (T5 d)).set wr (.int (t3+price es i pr st))))) l rs es.length cs.length (T5.rel (fun i st=>price es i pr st) i j (st,d,wr))/\upd H5 rd (.lst ((rowV cs.length (T5 d)).set wr (.int (t3+price es i pr st)))) lw=some (.lst (as.map V.ref))/\WaysAt (upd H5 rd (.lst ((rowV cs.length (T5 d)).set wr (.int (t3+price es i pr st))))) as ws/\Same H (upd H5 rd (.lst ((rowV cs.length (T5 d)).set wr (.int (t3+price es i pr st))))):=by
      intro e
      rw [e]
      refine ⟨hT5.put _ erd hx.2.1,?_,hW5.set hrd,same_to S5 (hrf rd (List.mem_of_getElem? erd))⟩
      rw [upd_ne (fun z=>by
       rw [z,hrd] at hlw5
       injection hlw5 with h1
       injection h1 with h2
       exact ref_row h2.symm)]
      exact hlw5
     cases hu:T5 d wr with
     | none=>
      have er:T5.rel (fun i st=>price es i pr st) i j (st,d,wr)=T5.put d wr (t3+price es i pr st):=by
       unfold Tb.rel
       simp only [ht5,hu]
      obtain ⟨c1,c2,c3,c4⟩:=store er
      refine iteY rfl (iteT ?_)
      refine ⟨_,rfl,_,rfl,_,rfl,l,_,_,_,rfl,rfl,SqL.of hT5.top,ard,_,rfl,rd,_,_,wr,rfl,rfl,hrd,ixN_nat (by rw [rowV_len];have:=hx.2.1;omega),?_⟩
      exact ⟨_,_,_,_,_,rfl,c1,hI6,ht6,c2,c3,c4⟩
     | some u=>
      refine iteK (fun z=>by cases z) ?_
      refine ⟨_,rfl,_,rfl,_,rfl,l,_,_,_,rfl,rfl,SqL.of hT5.top,ard,_,rfl,rd,_,_,_,rfl,rfl,SqL.of hrd,rowV_atI _ hx.2.1,?_⟩
      rw [hu]
      refine ⟨_,_,rfl,rfl,_,rfl,ite2 (fun hlt=>?_) (fun hlt=>?_)⟩
      ·have hlt:=of_decide_eq_true hlt
       have er:T5.rel (fun i st=>price es i pr st) i j (st,d,wr)=T5.put d wr (t3+price es i pr st):=by
        unfold Tb.rel
        simp only [ht5,hu]
        rw [if_pos hlt]
       obtain ⟨c1,c2,c3,c4⟩:=store er
       refine ⟨_,rfl,_,rfl,_,rfl,l,_,_,_,rfl,rfl,SqL.of hT5.top,ard,_,rfl,rd,_,_,wr,rfl,rfl,hrd,ixN_nat (by rw [rowV_len];have:=hx.2.1;omega),?_⟩
       exact ⟨_,_,_,_,_,rfl,c1,hI6,ht6,c2,c3,c4⟩
      ·have hlt:¬ (t3+price es i pr st < u):=fun z=>hlt (decide_eq_true z)
       have er:T5.rel (fun i st=>price es i pr st) i j (st,d,wr)=T5:=by
        unfold Tb.rel
        simp only [ht5,hu]
        rw [if_neg hlt]
       rw [er] at hI6
       exact ⟨T5,_,_,_,_,rfl,hT5,hI6,ht5,hlw5,hW5,S5⟩
    ·rintro σ H5 ⟨T5,v6,v7,v8,v9,rfl,hT5,hI5,ht5,hlw5,hW5,S5⟩
     rw [List.length_map,hW5.len,List.take_length,<-hws] at hI5
     exact ⟨T5,_,_,_,_,_,rfl,hT5,hI5.congr (Gone.next (by omega) (by omega)),S5⟩
   ·rintro σ H3 ⟨T3,v5,v6,v7,v8,v9,rfl,hT3,hI3,S3⟩
    exact ⟨T3,_,_,_,_,_,_,rfl,hT3,hI3.congr Gone.row,S3⟩
  ·rintro σ H2 ⟨T2,v4,v5,v6,v7,v8,v9,rfl,hT2,hI2,S2⟩
   obtain ⟨hall,hL⟩:=hI2.least (ways_fwd es cs) (ways_come es cs)
   refine ⟨_,rfl,l,rs,es.length,cs.length,T2,rfl,hT2,hel,fun H9 t ps S9 ht hpl hrow=>?_⟩
   refine q H9 t ps (fun i j=>(T2 i j).getD 0) (S2.trans S9) ht hpl (fun i y e=>?_) hL
   rw [hrow i y e]
   congr 2
   unfold rowV
   apply List.map_congr_left
   intro j hj
   have:=List.mem_range.mp hj
   have hil:i < ps.length:=(List.getElem?_eq_some_iff.mp e).1
   obtain ⟨v,hv⟩:=hall i j (by omega) (by omega)
   rw [hv]
   rfl
theorem ways_few {es cs:List Str} {i j:Nat} (h:es.length<=1000):(ways es cs i j).length<=1100:=by
 have l6:(w6 es i j).length<=1000:=by
  unfold w6 skips
  rw [List.length_map]
  split
  ·exact Nat.zero_le _
  ·rw [List.length_map]
   exact Nat.le_trans (List.length_filter_le _ _) (by rw [List.length_range];omega)
 have l1:(w1 es cs i j).length<=1:=by unfold w1;split <;> simp
 have l2:(w2 es i j).length<=1:=by unfold w2;split <;> simp
 have l3:(w3 cs i j).length<=1:=by unfold w3;split <;> simp
 have l4:(w4 cs i j).length<=1:=by unfold w4;split <;> simp
 have l5:(w5 es cs i j).length<=1:=by unfold w5;split <;> simp
 unfold ways
 simp only [List.length_append]
 omega
theorem down_facts:∀ m,m < 101->Builtin.Range.small ((m:Nat):Int) (-1) (-1)=true/\Builtin.Range.rangeSize ((m:Nat):Int) (-1) (-1)=((m+1:Nat):Int):=by decide +kernel
def spRtab (K:PySem.W.Frag):Sp:=fun vs H Q _=>∃ (p q r:Addr) (es cs:List Str) (pr:List Int),vs=[.ref p,.ref q,.ref r]/\SqT K H p (es.map V.str)/\SqT K H q (cs.map V.str)/\SqT K H r (pr.map V.int)/\(∀ z ∈ es,Good z)/\(∀ z ∈ cs,Good z)/\es.length<=100/\cs.length<=100/\pr.length=7 ∧
 ∀ (H':Hp) (t:Addr) (ps:List Addr) (F:Nat->Nat->Int),Same H H'->H' t=some (.tup (ps.map V.ref))->ps.length=es.length+1->(∀ i y,ps[i]?=some y->H' y=some (.tup ((List.range (cs.length+1)).map fun j=>V.int (F i j))))->Rest (fun i st=>price es i pr st) es.length cs.length (ways es cs) F->Q (.ref t) H'
theorem scRtab:FnScope ["elder","copy","prices","table","i","j","ways","rests"] ["elder","copy","prices"] (defScope sRtab):=⟨rfl,rfl,rfl,by decide +kernel,rfl,by decide +kernel,by decide +kernel⟩
theorem nd_sdw:(["step","done","written","elder","i","prices","table"]:List Str).Nodup:=by decide +kernel
theorem pg_tupK2 {X:Cx} {es:List Expr} {k:Nat} {t:TGs} {n:Nat} {pos:Pos} (hK:X.K=K) (hc:X.calm=true) (h:PGs X es t)
  (hn:(assignEach es X.env).length=n:=by rfl) (hst:(assignEach es X.env).findIdx? (·.1)=none:=by rfl):PG X (.Tuple es k pos) (gTup K n t):=by
 subst hK
 exact pg_tup hc h hn hst
theorem zip_fst {α β:Type} (f:α->V):∀ {xs:List α} {ys:List β},xs.length=ys.length->(xs.zip ys).map (fun x=>f x.1)=xs.map f
 | [],_,_=>by simp
 | x :: xs,[],h=>by simp at h
 | x :: xs,y :: ys,h=>by
  rw [List.zip_cons_cons,List.map_cons,List.map_cons,zip_fst f (by simpa using h)]
theorem zip_snd {α β γ:Type} (f:β->γ):∀ {xs:List α} {ys:List β},xs.length=ys.length->(xs.zip ys).map (fun x=>f x.2)=ys.map f
 | [],[],_=>by simp
 | [],y :: ys,h=>by simp at h
 | x :: xs,[],h=>by simp at h
 | x :: xs,y :: ys,h=>by
  rw [List.zip_cons_cons,List.map_cons,List.map_cons,zip_snd f (by simpa using h)]
theorem zip_ways {H:Hp} {as:List Addr} {ws:List Way} (h:WaysAt H as ws):∃ ta:Addr × Way->Addr,∀ x ∈ as.zip ws,x.2 ∈ ws/\H x.1=some (.tup (wayV (ta x) x.2))/\H (ta x)=some (.tup (stepV x.2.1)):=by
 classical
 refine ⟨fun x=>if h:∃ t,H x.1=some (.tup (wayV t x.2))/\H t=some (.tup (stepV x.2.1)) then h.choose else x.1,fun x hx=>?_⟩
 obtain ⟨k,hk⟩:=List.mem_iff_getElem?.mp hx
 obtain ⟨h1,h2⟩:=List.getElem?_zip_eq_some.mp hk
 have hh:=h.item k x.1 x.2 h1 h2
 dsimp only
 rw [dif_pos hh]
 exact ⟨List.mem_of_getElem? h2,hh.choose_spec⟩
theorem ok_rtab {f gE gT gW gP:Addr} {fd dE dT dW dP:FuncData} (F:Fun K "rest_table" "rest_table" sRtab f fd) (DE:Dfn K mg "empty_table" sEmp gE dE ["elder","copy"]) (DT:Dfn K mg "table_told" sTld gT dT ["table"])
  (DW:Dfn K mg "knot_ways" sWays gW dW ["elder","copy","i","j"]) (GW:FnOk P w K mg base CX0 2 gW dW ["elder","copy","i","j"] (spWays K)) (DP:Dfn K mg "step_price" sPrice gP dP ["elder","done","step","prices"]) (GP:FnOk P w K mg base CX0 2 gP dP ["elder","done","step","prices"] (spPrice K))
  (mlen:mg "len" = none) (mrange:mg "range" = none) (mtuple:mg "tuple" = none) (mmin:mg "min" = none):FnOk P w K mg base CX0 3 f fd ["elder","copy","prices"] (spRtab K):=by
 have GE:FnOk P w K mg base CX0 2 gE dE ["elder","copy"] (spEmp K):=(ok_emp DE.fn mlen mrange).mono (by decide)
 have GT:FnOk P w K mg base CX0 2 gT dT ["table"] (spTld K):=(ok_tld DT.fn mtuple).mono (by decide)
 refine F.ok scRtab (fun vs H Q E h=>?_) (fun cdv A outer s H vs Q E hr h=>?_)
 ·obtain ⟨p,q,r,es,cs,pr,rfl,_⟩:=h
  rfl
 ·obtain ⟨p,q0,r0,es,cs,pr,rfl,hp,hc,hpr,hge,hgc,hel,hcl,h7,q⟩:=h
  refine ⟨_,pss_cons (ps_set (i:=3) scRtab.nd rfl (Or.inr rfl) (pe_call GE hr (by rfl) DE.at_ DE.fn.kp DE.bn .nil pass0 (pa_cons (pv 0) (pa_cons (pv 1) pa_nil))))
   (pss_cons (ps_for PassesOwn.never rfl (pi_range3 (by rfl) mrange (pa_cons (pe_callB call_len_seq (by rfl) mlen PySem.boot_len (pa_cons (pv 0) pa_nil)) (pa_cons (pe_un un_neg pe_int) (pa_cons (pe_un un_neg pe_int) pa_nil)))) (pg_name (i:=4) scRtab.nd rfl (Or.inr rfl))
    (pss_one (ps_for PassesOwn.never rfl (pi_range3 (by rfl) mrange (pa_cons (pe_callB call_len_seq (by rfl) mlen PySem.boot_len (pa_cons (pv 1) pa_nil)) (pa_cons (pe_un un_neg pe_int) (pa_cons (pe_un un_neg pe_int) pa_nil)))) (pg_name (i:=5) scRtab.nd rfl (Or.inl rfl))
     (pss_cons (ps_set (i:=6) scRtab.nd rfl (Or.inl rfl) (pe_call GW hr (by rfl) DW.at_ DW.fn.kp DW.bn .nil pass0 (pa_cons (pv 0) (pa_cons (pv 1) (pa_cons (pv 4) (pa_cons (pv 5) pa_nil))))))
     (pss_cons (ps_setC (i:=7) (Nc:=["step","done","written","elder","i","prices","table"]) (mp:=[none,none,none,some 0,some 4,some 2,some 3]) rfl scRtab.nd rfl rfl (CompOk.of (by rfl)) (pi_list (pv 6))
      (fun cl C s H fp=>⟨pg_tupK2 (K:=K) (n:=3) rfl rfl (pgs_cons (pg_name (i:=0) nd_sdw rfl (Or.inl rfl)) (pgs_cons (pg_name (i:=1) nd_sdw rfl (Or.inl rfl)) (pgs_cons (pg_name (i:=2) nd_sdw rfl (Or.inl rfl)) pgs_nil))),pts_nil,pe_op op_add (pe_call GP hr (by rfl) DP.at_ DP.fn.kp DP.bn .nil pass0 (pa_cons (pv 3) (pa_cons (pv 4) (pa_cons (pv 0) (pa_cons (pv 5) pa_nil))))) (pe_ix (ix_listK (K:=K) rfl) (pe_ix (ix_listK (K:=K) rfl) (pv 6) (pv 1) (fun _ _=>rfl)) (pv 2) (fun _ _=>rfl))⟩))
     (pss_one (ps_asg (pe_minD rfl (by rfl) mmin (pv 7)) (pg_sub (pe_ix ix_list (pv 3) (pv 4) (fun _ _=>rfl)) (pv 5) set_list))))))))
   (pss_one (ps_ret (pe_call GT hr (by rfl) DT.at_ DT.fn.kp DT.bn .nil pass0 (pa_cons (pv 3) pa_nil))))),?_⟩
  have hle:(es.map V.str).length=es.length:=List.length_map ..
  have hlc:(cs.map V.str).length=cs.length:=List.length_map ..
  refine ⟨_,rfl,_,rfl,p,q0,_,_,rfl,hp,hc,by omega,by omega,fun H0 l rs S0 hlf hrf hT0=>?_⟩
  rw [hle,hlc] at hT0
  have dm:=down_facts es.length (by omega)
  have dn:=down_facts cs.length (by omega)
  refine ⟨_,rfl,p,_,rfl,.inr (sameT S0 hp),_,rfl,_,rfl,((es.length:Nat):Int),-1,-1,es.length+1,by rw [hle],by decide,by decide,dm.1,dm.2,?_⟩
  refine for_range3 (fun k σ H2=>∃ (T:Tb) (v4 v5 v6 v7:Option V),σ=[some (.ref p),some (.ref q0),some (.ref r0),some (.ref l),v4,v5,v6,v7]/\TabAt H2 l rs es.length cs.length T/\(∀ a b,a<=es.length->b<=cs.length->es.length < a+k->RestAt (fun i st=>price es i pr st) (ways es cs) T a b)/\Same H H2)
   ⟨_,none,none,none,none,rfl,hT0,fun a b ha hb h=>absurd h (by omega),S0⟩ ?_ ?_
  ·rintro k σ H2 hk ⟨T2,v4,v5,v6,v7,rfl,hT2,hI2,S2⟩
   obtain ⟨i,hi⟩:∃ i:Nat,i+k=es.length:=⟨es.length - k,by omega⟩
   have ei:((es.length:Nat):Int)+((k:Nat):Int) * -1=((i:Nat):Int):=by omega
   rw [ei]
   refine ⟨_,rfl,q0,_,rfl,.inr (sameT S2 hc),_,rfl,_,rfl,((cs.length:Nat):Int),-1,-1,cs.length+1,by rw [hlc],by decide,by decide,dn.1,dn.2,?_⟩
   refine for_range3 (fun t σ H3=>∃ (T:Tb) (v5 v6 v7:Option V),σ=[some (.ref p),some (.ref q0),some (.ref r0),some (.ref l),some (.int ((i:Nat):Int)),v5,v6,v7]/\TabAt H3 l rs es.length cs.length T/\(∀ a b,a<=es.length->b<=cs.length->(i < a\/(a=i/\cs.length < b+t))->RestAt (fun i st=>price es i pr st) (ways es cs) T a b)/\Same H H3)
    ⟨T2,v5,v6,v7,rfl,hT2,fun a b ha hb h=>hI2 a b ha hb (by omega),S2⟩ ?_ ?_
   ·rintro t σ H3 ht ⟨T3,v5,v6,v7,rfl,hT3,hI3,S3⟩
    obtain ⟨j,hj⟩:∃ j:Nat,j+t=cs.length:=⟨cs.length - t,by omega⟩
    have ej:((cs.length:Nat):Int)+((t:Nat):Int) * -1=((j:Nat):Int):=by omega
    rw [ej]
    have hR:RestI (fun i st=>price es i pr st) es.length cs.length (ways es cs) i j T3:=fun a b ha hb h=>hI3 a b ha hb (by omega)
    refine ⟨_,rfl,_,rfl,_,rfl,_,rfl,p,q0,es,cs,i,j,rfl,sameT S3 hp,sameT S3 hc,by omega,by omega,by omega,fun H4 lw as S4 hlw hW=>?_⟩
    have hok:=ways_ok (i:=i) (j:=j) (es:=es) hgc (by omega)
    have htn:∀ x ∈ ways es cs i j,turnOk es i x.1:=fun x hx=>by
     cases hx1:x.1 with
     | turn z=>exact ways_turn hx hx1
     | _=>trivial
    have hfw:=ways_fwd es cs i j (by omega) (by omega)
    have hend:∀ x ∈ ways es cs i j,∃ u,T3 x.2.1 x.2.2=some u:=fun x hx=>hR.ends (ways_fwd es cs) (by omega) (by omega) hx
    have hput:=hR.put (ways_fwd es cs) (by omega) (by omega)
    have hwl:=ways_few (es:=es) (cs:=cs) (i:=i) (j:=j) (by omega)
    generalize hws:ways es cs i j=ws at hW hok htn hfw hend hput hwl
    have hT4:=hT3.mono S4
    have S34:=S3.trans S4
    obtain ⟨ta,hta⟩:=zip_ways hW
    have hlz:H4 lw=some (.lst ((as.zip ws).map fun x=>V.ref x.1)):=by rw [zip_fst V.ref hW.len];exact hlw
    refine ⟨_,rfl,lw,rfl,⟨_,SqL.of hlz⟩,comp_trip (K:=K) (as:=as.zip ws) (v:=fun x=>V.ref x.1) (x:=fun x=>V.ref (ta x)) (y:=fun x=>.int ((x.2.2.1:Nat):Int)) (z:=fun x=>.int ((x.2.2.2:Nat):Int)) (fun x=>.int (price es i pr x.2.1+(T3 x.2.2.1 x.2.2.2).getD 0)) (src_list (SqL.of hlz)) (by rw [List.length_zip,hW.len];exact few (by omega)) (fun x hx=>⟨x.1,rfl,SqT.of (hta x hx).2.1⟩) (fun x hx kc hkc=>?_) (fun D hD=>?_)⟩
    ·obtain ⟨hxm,hx1,hx2⟩:=hta x hx
     have hx:=hfw _ hxm
     obtain ⟨u,hu⟩:=hend _ hxm
     obtain ⟨rd,erd,ard,hrd⟩:=hT4.line (i:=x.2.2.1) hx.1
     refine ⟨_,rfl,_,rfl,_,rfl,_,rfl,p,ta x,r0,es,i,x.2.1,pr,rfl,sameT S34 hp,hge,SqT.of hx2,hok _ hxm,htn _ hxm,sameT S34 hpr,h7,_,rfl,_,rfl,l,_,_,_,rfl,rfl,SqL.of hT4.top,ard,_,rfl,rd,_,_,_,rfl,rfl,SqL.of hrd,rowV_atI _ hx.2.1,?_⟩
     rw [hu] at hkc ⊢
     exact ⟨_,_,rfl,rfl,hkc⟩
    ·have SD:=same_upd (o:=.lst ((as.zip ws).map fun x=>V.int (price es i pr x.2.1+(T3 x.2.2.1 x.2.2.2).getD 0))) hD
     have hDl:upd H4 D (.lst ((as.zip ws).map fun x=>V.int (price es i pr x.2.1+(T3 x.2.2.1 x.2.2.2).getD 0))) D=some (.lst ((ws.map fun x=>price es i pr x.1+(T3 x.2.1 x.2.2).getD 0).map V.int)):=by
      rw [upd_same,List.map_map,zip_snd (fun x:Way=>V.int (price es i pr x.1+(T3 x.2.1 x.2.2).getD 0)) hW.len]
      rfl
     have hT5:=hT4.mono SD
     have S5:=S34.trans SD
     generalize upd H4 D (.lst ((as.zip ws).map fun x=>V.int (price es i pr x.2.1+(T3 x.2.2.1 x.2.2.2).getD 0)))=H5 at SD hDl hT5 S5
     obtain ⟨ri,eri,ari,hri⟩:=hT5.line (i:=i) (by omega)
     have g2:∀ o,Same H (upd H5 ri o):=fun o=>same_to S5 (hrf ri (List.mem_of_getElem? eri))
     refine ⟨_,rfl,D,_,rfl,SqL.of hDl,fun e0=>?_,fun m hm hle'=>?_⟩
     ·refine ⟨_,rfl,_,rfl,l,_,_,_,rfl,rfl,SqL.of hT5.top,ari,_,rfl,ri,_,_,j,rfl,rfl,hri,ixN_nat (by rw [rowV_len];omega),T3.put i j 0,_,_,_,rfl,hT5.put 0 eri (by omega),fun a b ha hb h=>?_,g2 _⟩
      have:=hput a b ha hb (by omega)
      rw [e0] at this
      exact this
     ·have em:m=leastOf (ws.map fun x=>price es i pr x.1+(T3 x.2.1 x.2.2).getD 0):=by
       have h1:=leastOf_le hm
       have h2:=hle' _ (leastOf_mem (fun z=>by rw [z] at hm;cases hm))
       omega
      refine ⟨_,rfl,_,rfl,l,_,_,_,rfl,rfl,SqL.of hT5.top,ari,_,rfl,ri,_,_,j,rfl,rfl,hri,ixN_nat (by rw [rowV_len];omega),T3.put i j m,_,_,_,rfl,hT5.put m eri (by omega),fun a b ha hb h=>by rw [em];exact hput a b ha hb (by omega),g2 _⟩
   ·rintro σ H3 ⟨T3,v5,v6,v7,rfl,hT3,hI3,S3⟩
    exact ⟨T3,_,_,_,_,rfl,hT3,fun a b ha hb h=>hI3 a b ha hb (by omega),S3⟩
  ·rintro σ H2 ⟨T2,v4,v5,v6,v7,rfl,hT2,hI2,S2⟩
   obtain ⟨hall,hL⟩:=rest_of (fun a b ha hb=>hI2 a b ha hb (by omega)) (ways_none es cs) (fun i j hi hj hn=>ways_some es cs hi hj hn)
   refine ⟨_,rfl,l,rs,es.length,cs.length,T2,rfl,hT2,by omega,fun H9 t ps S9 ht hpl hrow=>?_⟩
   refine q H9 t ps (fun i j=>(T2 i j).getD 0) (S2.trans S9) ht hpl (fun i y e=>?_) hL
   rw [hrow i y e]
   congr 2
   unfold rowV
   apply List.map_congr_left
   intro j hj
   have:=List.mem_range.mp hj
   have hil:i < ps.length:=(List.getElem?_eq_some_iff.mp e).1
   obtain ⟨v,hv⟩:=hall i j (by omega) (by omega)
   rw [hv]
   rfl
structure NumsAt (H:Hp) (t:Addr) (ps:List Addr) (m n:Nat) (F:Nat->Nat->Int):Prop where
 top:H t=some (.tup (ps.map V.ref))
 len:ps.length=m+1
 row:∀ i y,ps[i]?=some y->H y=some (.tup ((List.range (n+1)).map fun j=>V.int (F i j)))
theorem NumsAt.mono {H H':Hp} {t:Addr} {ps:List Addr} {m n:Nat} {F:Nat->Nat->Int} (h:NumsAt H t ps m n F) (S:Same H H'):NumsAt H' t ps m n F:=⟨S _ _ h.top,h.len,fun i y e=>S _ _ (h.row i y e)⟩
theorem nums_line {H:Hp} {t:Addr} {ps:List Addr} {m n:Nat} {F:Nat->Nat->Int} (h:NumsAt H t ps m n F) {i:Nat} (hi:i<=m):∃ y,atI (ps.map V.ref) ((i:Nat):Int)=some (.ref y)/\H y=some (.tup ((List.range (n+1)).map fun j=>V.int (F i j))):=by
 have hl:i < ps.length:=by rw [h.len];omega
 exact ⟨ps[i],atI_nat (by rw [List.getElem?_map,List.getElem?_eq_getElem hl];rfl),h.row i _ (List.getElem?_eq_getElem hl)⟩
theorem nums_at {n j:Nat} (f:Nat->Int) (hj:j<=n):atI ((List.range (n+1)).map fun j=>V.int (f j)) ((j:Nat):Int)=some (.int (f j)):=
 atI_nat (by rw [List.getElem?_map,List.getElem?_range (by omega)];rfl)
theorem atI_last {xs:List V} {v:V} (h:xs[xs.length - 1]?=some v) (h0:0 < xs.length):atI xs (-1)=some v:=by
 unfold atI
 rw [<-h]
 have e:ixN xs.length (-1)=some (xs.length - 1):=by
  unfold ixN
  rw [if_neg (by omega)]
  rw [if_pos (by omega)]
  congr 1
  omega
 rw [e]
 rfl
theorem nums_last {H:Hp} {t:Addr} {ps:List Addr} {m n:Nat} {F:Nat->Nat->Int} (h:NumsAt H t ps m n F):∃ y,atI (ps.map V.ref) (-1)=some (.ref y)/\H y=some (.tup ((List.range (n+1)).map fun j=>V.int (F m j)))/\atI ((List.range (n+1)).map fun j=>V.int (F m j)) (-1)=some (.int (F m n)):=by
 have hl:m < ps.length:=by rw [h.len];omega
 refine ⟨ps[m],atI_last ?_ (by rw [List.length_map];omega),h.row m _ (List.getElem?_eq_getElem hl),atI_last ?_ (by rw [List.length_map,List.length_range];omega)⟩
 ·rw [List.length_map,h.len,Nat.add_sub_cancel,List.getElem?_map,List.getElem?_eq_getElem hl];rfl
 ·rw [List.length_map,List.length_range,Nat.add_sub_cancel,List.getElem?_map,List.getElem?_range (by omega)];rfl
def endS:Sk->Nat × Nat
 | .keep=>(1,1)
 | .turn _=>(1,1)
 | .lose=>(1,0)
 | .add _=>(0,1)
 | .twice=>(0,1)
 | .swap=>(2,2)
 | .skip m=>(m,0)
theorem ways_end {es cs:List Str} {i j:Nat} {x:Way} (h:x ∈ ways es cs i j):x.2.1=i+(endS x.1).1/\x.2.2=j+(endS x.1).2:=by
 unfold ways at h
 rcases List.mem_append.mp h with h | h
 ·rcases List.mem_append.mp h with h | h
  ·rcases List.mem_append.mp h with h | h
   ·rcases List.mem_append.mp h with h | h
    ·rcases List.mem_append.mp h with h | h
     ·unfold w1 at h
      split at h
      ·rw [List.mem_singleton.mp h]
       dsimp only
       split <;> exact ⟨rfl,rfl⟩
      ·cases h
     ·unfold w2 at h
      split at h
      ·rw [List.mem_singleton.mp h];exact ⟨rfl,rfl⟩
      ·cases h
    ·unfold w3 at h
     split at h
     ·rw [List.mem_singleton.mp h];exact ⟨rfl,rfl⟩
     ·cases h
   ·unfold w4 at h
    split at h
    ·rw [List.mem_singleton.mp h];exact ⟨rfl,rfl⟩
    ·cases h
  ·unfold w5 at h
   split at h
   ·rw [List.mem_singleton.mp h];exact ⟨rfl,rfl⟩
   ·cases h
 ·unfold w6 at h
  obtain ⟨k,hk,rfl⟩:=List.mem_map.mp h
  exact ⟨rfl,rfl⟩
def cheap (es cs:List Str) (pr:List Int) (R:Nat->Nat->Int) (i j:Nat):List Way:=(ways es cs i j).filter fun x=>decide (price es i pr x.1+R x.2.1 x.2.2=R i j)
theorem cheap_in {es cs:List Str} {pr:List Int} {R:Nat->Nat->Int} {i j:Nat} {x:Way} (h:x ∈ cheap es cs pr R i j):x ∈ ways es cs i j/\price es i pr x.1+R x.2.1 x.2.2=R i j:=
 ⟨(List.mem_filter.mp h).1,of_decide_eq_true (List.mem_filter.mp h).2⟩
def Told (es cs:List Str) (pr:List Int) (R:Nat->Nat->Int):Nat->Nat->List Sk->Prop
 | i,j,[]=>i=es.length/\j=cs.length
 | i,j,st :: r=>∃ x,(cheap es cs pr R i j).head?=some x/\x.1=st/\Told es cs pr R x.2.1 x.2.2 r
def spCW (K:PySem.W.Frag):Sp:=fun vs H Q _=>∃ (p q r t:Addr) (es cs:List Str) (pr:List Int) (ps:List Addr) (R:Nat->Nat->Int) (i j:Nat),vs=[.ref p,.ref q,.ref r,.ref t,.int ((i:Nat):Int),.int ((j:Nat):Int)]/\SqT K H p (es.map V.str)/\SqT K H q (cs.map V.str)/\SqT K H r (pr.map V.int)/\(∀ z ∈ es,Good z)/\(∀ z ∈ cs,Good z)/\es.length<=100/\cs.length<=100/\pr.length=7/\NumsAt H t ps es.length cs.length R/\i<=es.length/\j<=cs.length ∧
 ∀ (H':Hp) (l:Addr) (as:List Addr),Same H H'->H' l=some (.lst (as.map V.ref))->WaysAt H' as (cheap es cs pr R i j)->Q (.ref l) H'
theorem scCW:FnScope ["elder","copy","prices","rest","i","j","ways","step","done","written"] ["elder","copy","prices","rest","i","j"] (defScope sCW):=⟨rfl,rfl,rfl,by decide +kernel,rfl,by decide +kernel,by decide +kernel⟩
theorem ok_cw {f gW gP:Addr} {fd dW dP:FuncData} (F:Fun K "cheapest_ways" "cheapest_ways" sCW f fd) (DW:Dfn K mg "knot_ways" sWays gW dW ["elder","copy","i","j"]) (GW:FnOk P w K mg base CX0 2 gW dW ["elder","copy","i","j"] (spWays K)) (DP:Dfn K mg "step_price" sPrice gP dP ["elder","done","step","prices"]) (GP:FnOk P w K mg base CX0 2 gP dP ["elder","done","step","prices"] (spPrice K)):FnOk P w K mg base CX0 3 f fd ["elder","copy","prices","rest","i","j"] (spCW K):=by
 refine F.ok scCW (fun vs H Q E h=>?_) (fun cdv A outer s H vs Q E hr h=>?_)
 ·obtain ⟨p,q,r,t,es,cs,pr,ps,R,i,j,rfl,_⟩:=h
  rfl
 ·obtain ⟨p,q0,r0,t,es,cs,pr,ps,R,i,j,rfl,hp,hc,hpr,hge,hgc,hel,hcl,h7,hN,hi,hj,q⟩:=h
  refine ⟨_,pss_cons (ps_set (i:=6) scCW.nd rfl (Or.inl rfl) (pe_lst pa_nil))
   (pss_cons (ps_for PassesOwn.never rfl (pi_list (pe_call GW hr (by rfl) DW.at_ DW.fn.kp DW.bn .nil pass0 (pa_cons (pv 0) (pa_cons (pv 1) (pa_cons (pv 4) (pa_cons (pv 5) pa_nil)))))) (pg_tup (n:=3) rfl (pgs_cons (pg_name (i:=7) scCW.nd rfl (Or.inl rfl)) (pgs_cons (pg_name (i:=8) scCW.nd rfl (Or.inl rfl)) (pgs_cons (pg_name (i:=9) scCW.nd rfl (Or.inl rfl)) pgs_nil))))
    (pss_one (ps_if (pt_cmpR op_eq (pe_op op_add (pe_call GP hr (by rfl) DP.at_ DP.fn.kp DP.bn .nil pass0 (pa_cons (pv 0) (pa_cons (pv 4) (pa_cons (pv 7) (pa_cons (pv 2) pa_nil))))) (pe_ix ix_tup (pe_ix ix_tup (pv 3) (pv 8) (fun _ _=>rfl)) (pv 9) (fun _ _=>rfl))) (pe_ix ix_tup (pe_ix ix_tup (pv 3) (pv 4) (fun _ _=>rfl)) (pv 5) (fun _ _=>rfl)) (nomark _)) (pss_one (ps_expr (pe_bm PySem.F.plainAttrs_list PySem.F.slot_list_append PySem.F.type_list_append mt_append (pv 6) (pa_cons (pe_tup (pa_cons (pv 7) (pa_cons (pv 8) (pa_cons (pv 9) pa_nil)))) pa_nil)))) pss_nil)))
   (pss_one (ps_ret (pv 6)))),?_⟩
  refine ⟨Nat.zero_le _,fun l hl=>?_⟩
  have S0:=same_upd (o:=.lst []) hl
  refine ⟨_,rfl,_,rfl,_,rfl,_,rfl,p,q0,es,cs,i,j,rfl,sameT S0 hp,sameT S0 hc,hi,hj,by omega,fun H1 lw as S1 hlw hW=>?_⟩
  have hok:=ways_ok (i:=i) (j:=j) (es:=es) hgc (by omega)
  have htn:∀ x ∈ ways es cs i j,turnOk es i x.1:=fun x hx=>by
   cases hx1:x.1 with
   | turn z=>exact ways_turn hx hx1
   | _=>trivial
  have hfw:=ways_fwd es cs i j hi hj
  have hwl:=ways_few (es:=es) (cs:=cs) (i:=i) (j:=j) (by omega)
  unfold cheap at q
  generalize ways es cs i j=ws at hW hok htn hfw hwl q
  have S01:=S0.trans S1
  have hl1:=S1 _ _ (upd_same (H:=H) (a:=l) (o:=.lst []))
  have nlw:lw ≠ l\/as=[]:=by
   by_cases e:lw=l
   ·right
    rw [e,hl1] at hlw
    injection hlw with h1
    injection h1 with h2
    exact List.map_eq_nil_iff.mp h2.symm
   ·exact .inl e
  refine ⟨lw,rfl,⟨_,SqL.of hlw⟩,for_list (K:=K) (a:=lw) (xs:=as.map V.ref) (fun k σ H2=>∃ (bs:List Addr) (v7 v8 v9:Option V),σ=[some (.ref p),some (.ref q0),some (.ref r0),some (.ref t),some (.int ((i:Nat):Int)),some (.int ((j:Nat):Int)),some (.ref l),v7,v8,v9]/\H2 l=some (.lst (bs.map V.ref))/\H2 lw=some (.lst (as.map V.ref))/\WaysAt H2 as ws/\Same H H2/\WaysAt H2 bs ((ws.take k).filter fun x=>decide (price es i pr x.1+R x.2.1 x.2.2=R i j)))
   ⟨[],none,none,none,rfl,hl1,hlw,hW,S01,rfl,fun k a x e=>by simp at e⟩ (fun k σ H2 _ ⟨_,_,_,_,_,_,h,_⟩=>SqL.of h) ?_ ?_⟩
  ·rintro k y σ H2 hk ⟨bs,v7,v8,v9,rfl,h2,hlw2,hW2,S2,hB⟩
   obtain ⟨a,hak,rfl⟩:=ref_at hk
   have hne:as ≠ []:=fun z=>by rw [z] at hak;simp at hak
   have nl:lw ≠ l:=nlw.resolve_right hne
   have hkl:k < ws.length:=by rw [<-hW2.len];exact (List.getElem?_eq_some_iff.mp hak).1
   obtain ⟨ts,ha,hts⟩:=hW2.item k a ws[k] hak (List.getElem?_eq_getElem hkl)
   have hxm:ws[k] ∈ ws:=List.getElem_mem hkl
   have hx:=hfw _ hxm
   have hx1:=hok _ hxm
   have hx2:=htn _ hxm
   have htake:ws.take (k+1)=ws.take k++[ws[k]]:=List.take_succ_eq_append_getElem hkl
   generalize ws[k]=x at *
   have hN2:=hN.mono S2
   obtain ⟨z1,az1,hz1⟩:=nums_line hN2 hx.1
   obtain ⟨z2,az2,hz2⟩:=nums_line hN2 hi
   refine ⟨_,_,rfl,SqT.of ha,rfl,_,_,rfl,_,_,rfl,_,_,rfl,rfl,?_⟩
   refine ⟨_,rfl,_,rfl,_,rfl,_,rfl,p,ts,r0,es,i,x.1,pr,rfl,sameT S2 hp,hge,SqT.of hts,hx1,hx2,sameT S2 hpr,h7,_,rfl,_,rfl,t,_,_,_,rfl,rfl,SqT.of hN2.top,az1,_,rfl,z1,_,_,_,rfl,rfl,SqT.of hz1,nums_at _ hx.2.1,_,_,rfl,rfl,_,rfl,_,rfl,t,_,_,_,rfl,rfl,SqT.of hN2.top,az2,_,rfl,z2,_,_,_,rfl,rfl,SqT.of hz2,nums_at _ hj,rfl,_,rfl,?_⟩
   refine ite2 (fun h=>?_) (fun h=>?_)
   ·have h:=of_decide_eq_true h
    injection h with h
    have ef:(ws.take (k+1)).filter (fun x=>decide (price es i pr x.1+R x.2.1 x.2.2=R i j))=(ws.take k).filter (fun x=>decide (price es i pr x.1+R x.2.1 x.2.2=R i j))++[x]:=by
     rw [htake,List.filter_append,List.filter_cons_of_pos (by exact decide_eq_true h),List.filter_nil]
    refine ⟨_,rfl,.inl ⟨rfl,_,SqL.of h2⟩,_,rfl,_,rfl,_,rfl,few (by show 3<=_;omega),fun b hb=>?_⟩
    have S3:=same_upd (o:=.tup (wayV ts x)) hb
    have h3:=S3 _ _ h2
    have hbl:bs.length<=k:=by rw [hB.len];exact Nat.le_trans (List.length_filter_le _ _) (by rw [List.length_take];omega)
    refine ⟨l,_,_,rfl,rfl,h3,(by rw [List.length_map];exact fewer (by omega)),bs++[b],_,_,_,rfl,by rw [upd_same,List.map_append];rfl,by rw [upd_ne nl];exact S3 _ _ hlw2,(hW2.mono S3).set h3,same_to (S2.trans S3) hl,?_⟩
    rw [ef]
    exact WaysAt.set ((hB.mono S3).app (WaysAt.one upd_same (S3 _ _ hts))) h3
   ·have h:¬ (price es i pr x.1+R x.2.1 x.2.2=R i j):=fun z=>h (decide_eq_true (by show V.int (price es i pr x.1+R x.2.1 x.2.2)=_;rw [z]))
    have ef:(ws.take (k+1)).filter (fun x=>decide (price es i pr x.1+R x.2.1 x.2.2=R i j))=(ws.take k).filter (fun x=>decide (price es i pr x.1+R x.2.1 x.2.2=R i j)):=by
     rw [htake,List.filter_append,List.filter_cons_of_neg (by rw [decide_eq_false h];exact Bool.false_ne_true),List.filter_nil,List.append_nil]
    exact ⟨bs,_,_,_,rfl,h2,hlw2,hW2,S2,by rw [ef];exact hB⟩
  ·rintro σ H2 ⟨bs,v7,v8,v9,rfl,h2,hlw2,hW2,S2,hB⟩
   rw [List.length_map,hW2.len,List.take_length] at hB
   exact ⟨_,rfl,q _ l bs S2 h2 hB⟩
def spFC (K:PySem.W.Frag):Sp:=fun vs H Q _=>∃ (p q r:Addr) (es cs:List Str) (pr:List Int),vs=[.ref p,.ref q,.ref r]/\SqT K H p (es.map V.str)/\SqT K H q (cs.map V.str)/\SqT K H r (pr.map V.int)/\(∀ z ∈ es,Good z)/\(∀ z ∈ cs,Good z)/\es.length<=100/\cs.length<=100/\pr.length=7 ∧
 ∀ (H':Hp) (t:Addr) (ts:List Addr) (sts:List Sk) (R:Nat->Nat->Int),Same H H'->H' t=some (.tup (ts.map V.ref))->TupsAt H' ts sts->Rest (fun i st=>price es i pr st) es.length cs.length (ways es cs) R->Told es cs pr R 0 0 sts->sts.length<=es.length+cs.length->Q (.ref t) H'
theorem scFC:FnScope ["elder","copy","prices","rest","steps","i","j","way"] ["elder","copy","prices"] (defScope sFC):=⟨rfl,rfl,rfl,by decide +kernel,rfl,by decide +kernel,by decide +kernel⟩
theorem ok_fc {f gR gC:Addr} {fd dR dC:FuncData} (F:Fun K "first_cheapest" "first_cheapest" sFC f fd) (DR:Dfn K mg "rest_table" sRtab gR dR ["elder","copy","prices"]) (GR:FnOk P w K mg base CX0 3 gR dR ["elder","copy","prices"] (spRtab K)) (DC:Dfn K mg "cheapest_ways" sCW gC dC ["elder","copy","prices","rest","i","j"]) (GC:FnOk P w K mg base CX0 3 gC dC ["elder","copy","prices","rest","i","j"] (spCW K)) (mlen:mg "len" = none) (mtup:mg "tuple" = none):FnOk P w K mg base CX0 4 f fd ["elder","copy","prices"] (spFC K):=by
 refine F.ok scFC (fun vs H Q E h=>?_) (fun cdv A outer s H vs Q E hr h=>?_)
 ·obtain ⟨p,q,r,es,cs,pr,rfl,_⟩:=h
  rfl
 ·obtain ⟨p,q0,r0,es,cs,pr,rfl,hp,hc,hpr,hge,hgc,hel,hcl,h7,q⟩:=h
  refine ⟨_,pss_cons (ps_set (i:=3) scFC.nd rfl (Or.inl rfl) (pe_call GR hr (by rfl) DR.at_ DR.fn.kp DR.bn .nil pass0 (pa_cons (pv 0) (pa_cons (pv 1) (pa_cons (pv 2) pa_nil)))))
   (pss_cons (ps_set (i:=4) scFC.nd rfl (Or.inl rfl) (pe_lst pa_nil))
   (pss_cons (ps_set (i:=5) scFC.nd rfl (Or.inl rfl) pe_int)
   (pss_cons (ps_set (i:=6) scFC.nd rfl (Or.inl rfl) pe_int)
   (pss_cons (ps_while PassesOwn.never (pw_or (pt_cmpR op_lt (pv 5) (pe_callB call_len_seq (by rfl) mlen PySem.boot_len (pa_cons (pv 0) pa_nil)) (nomark _)) (pw_or1 (pt_cmpR op_lt (pv 6) (pe_callB call_len_seq (by rfl) mlen PySem.boot_len (pa_cons (pv 1) pa_nil)) (nomark _)))).pt
    (pss_cons (ps_set (i:=7) scFC.nd rfl (Or.inl rfl) (pe_ix ix_list (pe_call GC hr (by rfl) DC.at_ DC.fn.kp DC.bn .nil pass0 (pa_cons (pv 0) (pa_cons (pv 1) (pa_cons (pv 2) (pa_cons (pv 3) (pa_cons (pv 5) (pa_cons (pv 6) pa_nil))))))) pe_int (fun _ _=>rfl)))
    (pss_cons (ps_expr (pe_bm PySem.F.plainAttrs_list PySem.F.slot_list_append PySem.F.type_list_append mt_append (pv 4) (pa_cons (pe_ix ix_tup (pv 7) pe_int (fun _ _=>rfl)) pa_nil)))
    (pss_cons (ps_set (i:=5) scFC.nd rfl (Or.inl rfl) (pe_ix ix_tup (pv 7) pe_int (fun _ _=>rfl)))
    (pss_one (ps_set (i:=6) scFC.nd rfl (Or.inl rfl) (pe_ix ix_tup (pv 7) pe_int (fun _ _=>rfl))))))))
   (pss_one (ps_ret (pe_callTy call_tuple_of (by rfl) mtup boot_tuple (pa_cons (pv 4) pa_nil)))))))),?_⟩
  have hle:(es.map V.str).length=es.length:=List.length_map ..
  have hlc:(cs.map V.str).length=cs.length:=List.length_map ..
  refine ⟨_,rfl,_,rfl,_,rfl,p,q0,r0,es,cs,pr,rfl,hp,hc,hpr,hge,hgc,hel,hcl,h7,fun H1 t ps R S1 ht htl hrow hR=>?_⟩
  have hN:NumsAt H1 t ps es.length cs.length R:=⟨ht,htl,hrow⟩
  refine ⟨Nat.zero_le _,fun l hl=>?_⟩
  have S2:=same_upd (o:=.lst []) hl
  obtain ⟨W,hW⟩:∃ W:Nat->L2.St->Hp->Prop,W=fun k σ H3=>∃ (i j:Nat) (ts:List Addr) (sts:List Sk) (v7:Option V),k=(es.length - i)+(cs.length - j)/\i<=es.length/\j<=cs.length/\σ=[some (.ref p),some (.ref q0),some (.ref r0),some (.ref t),some (.ref l),some (.int ((i:Nat):Int)),some (.int ((j:Nat):Int)),v7]/\H3 l=some (.lst (ts.map V.ref))/\TupsAt H3 ts sts/\sts.length<=i+j/\(∀ r,Told es cs pr R i j r->Told es cs pr R 0 0 (sts++r))/\Same H1 H3:=⟨_,rfl⟩
  refine ⟨W,⟨(es.length - 0)+(cs.length - 0),by rw [hW];exact ⟨0,0,[],[],none,rfl,Nat.zero_le _,Nat.zero_le _,rfl,upd_same,TupsAt.nil,Nat.le_refl _,fun r h=>h,S2⟩⟩,?_⟩
  intro k σ H3 hk
  rw [hW] at hk
  obtain ⟨i,j,ts,sts,v7,rfl,hi,hj,rfl,h3,hT,hsl,hto,S3⟩:=hk
  have S13:=S1.trans S3
  by_cases hn:i=es.length/\j=cs.length
  ·obtain ⟨rfl,rfl⟩:=hn
   refine ⟨_,rfl,_,rfl,p,_,rfl,.inr (sameT S13 hp),_,_,rfl,rfl,_,rfl,iteK (by rw [hle];omega) ?_⟩
   refine ⟨_,rfl,_,rfl,q0,_,rfl,.inr (sameT S13 hc),_,_,rfl,rfl,_,rfl,iteK (by rw [hlc];omega) ?_⟩
   refine ⟨_,rfl,l,_,rfl,.inl ⟨SqL.of h3,fun t9 ht9=>?_⟩⟩
   have S9:=same_upd (o:=.tup (ts.map V.ref)) ht9
   have ht0:=hto [] ⟨rfl,rfl⟩
   rw [List.append_nil] at ht0
   exact q _ t9 ts sts R (S13.trans S9) upd_same (hT.mono S9) hR ht0 hsl
  ·refine (fun hG=>⟨_,rfl,_,rfl,p,_,rfl,.inr (sameT S13 hp),_,_,rfl,rfl,_,rfl,ite2 (fun _=>iteT hG) (fun h=>⟨_,rfl,_,rfl,q0,_,rfl,.inr (sameT S13 hc),_,_,rfl,rfl,_,rfl,iteY (by
    have h:¬ (((i:Nat):Int) < ((es.map V.str).length:Int)):=fun z=>h (decide_eq_true z)
    rw [hle] at h
    rw [hlc]
    omega) hG⟩)⟩) ?_
   refine ⟨fun σ' H'=>∃ m',m' < (es.length - i)+(cs.length - j)/\W m' σ' H',fun _ _ z=>z,?_⟩
   refine ⟨_,rfl,_,rfl,_,rfl,_,rfl,_,rfl,_,rfl,p,q0,r0,t,es,cs,pr,ps,R,i,j,rfl,sameT S13 hp,sameT S13 hc,sameT S13 hpr,hge,hgc,hel,hcl,h7,hN.mono S3,hi,hj,fun H4 lc as S4 hlc' hW4=>?_⟩
   obtain ⟨x0,hx0,ex0⟩:=hR.eq i j hi hj hn
   have hcm:x0 ∈ cheap es cs pr R i j:=List.mem_filter.mpr ⟨hx0,decide_eq_true ex0.symm⟩
   obtain ⟨x,xs,hxs⟩:∃ x xs,cheap es cs pr R i j=x :: xs:=by
    cases hch:cheap es cs pr R i j with
    | nil=>rw [hch] at hcm;cases hcm
    | cons x xs=>exact ⟨x,xs,rfl⟩
   have hxm:x ∈ cheap es cs pr R i j:=by rw [hxs];exact List.mem_cons_self ..
   have hxw:=(cheap_in hxm).1
   have hok:=ways_ok (i:=i) (j:=j) (es:=es) hgc (by omega) x hxw
   have hfw:=ways_fwd es cs i j hi hj x hxw
   rw [hxs] at hW4
   obtain ⟨a,as',rfl⟩:∃ a as',as=a :: as':=by
    cases as with
    | nil=>have:=hW4.len;simp at this
    | cons a as'=>exact ⟨a,as',rfl⟩
   obtain ⟨st,ha,hst⟩:=hW4.item 0 a x rfl rfl
   have h4:=S4 _ _ h3
   refine ⟨lc,_,_,_,rfl,rfl,SqL.of hlc',atI_nat (j:=0) rfl,?_⟩
   refine ⟨_,rfl,.inl ⟨rfl,_,SqL.of h4⟩,_,rfl,a,_,_,_,rfl,rfl,SqT.of ha,atI_nat (j:=0) rfl,l,_,_,rfl,rfl,h4,(by rw [List.length_map,hT.len];exact fewer (by omega)),?_⟩
   have keep:∀ {b:Addr} {ys zs:List V},H4 b=some (.tup ys)->upd H4 l (.lst zs) b=some (.tup ys):=fun {b ys zs} h=>by
    rw [upd_ne (ne_of h h4 (by intro z;cases z))];exact h
   refine ⟨_,rfl,a,_,_,_,rfl,rfl,SqT.of (keep ha),atI_nat (j:=1) rfl,?_⟩
   refine ⟨_,rfl,a,_,_,_,rfl,rfl,SqT.of (keep ha),atI_nat (j:=2) rfl,?_⟩
   refine ⟨(es.length - x.2.1)+(cs.length - x.2.2),by omega,?_⟩
   rw [hW]
   refine ⟨x.2.1,x.2.2,ts++[st],sts++[x.1],_,rfl,hfw.1,hfw.2.1,rfl,by rw [upd_same,List.map_append];rfl,((hT.mono S4).app (TupsAt.one hst hok)).set h4,by rw [List.length_append];show _+1<=_;omega,fun r hr'=>?_,same_to (S3.trans S4) hl⟩
   rw [List.append_assoc]
   exact hto _ ⟨x,by rw [hxs];rfl,rfl,hr'⟩
theorem drop_one {cs:List Str} {j:Nat} (h:j < cs.length):(cs.drop j).take 1=[gt cs j]:=by
 rw [List.drop_eq_getElem_cons h,List.take_succ_cons,List.take_zero]
 unfold gt
 rw [List.getElem?_eq_getElem h]
 rfl
theorem take_last {cs:List Str} {j:Nat} (h0:0 < j) (h:j<=cs.length):(cs.take j).getLast?=some (gt cs (j - 1)):=by
 rw [List.getLast?_eq_getElem?,List.length_take,Nat.min_eq_left h,List.getElem?_take_of_lt (by omega)]
 exact gt_of (by omega)
theorem way_after {es cs:List Str} {i j:Nat} {x:Way} (h:x ∈ ways es cs i j) (hi:i<=es.length) (hj:j<=cs.length):after es i (cs.take j).getLast? x.1=some (x.2.1,(cs.drop j).take (x.2.2 - j)):=by
 have e1:j+1 - j=1:=by omega
 have e2:j+2 - j=2:=by omega
 unfold ways at h
 rcases List.mem_append.mp h with h | h
 ·rcases List.mem_append.mp h with h | h
  ·rcases List.mem_append.mp h with h | h
   ·rcases List.mem_append.mp h with h | h
    ·rcases List.mem_append.mp h with h | h
     ·unfold w1 at h
      split at h
      ·rename_i hij
       rw [List.mem_singleton.mp h]
       dsimp only
       rw [e1,drop_one hij.2]
       split
       ·rename_i he
        unfold after
        rw [if_pos (show fitsB es i _ .keep=true from decide_eq_true hij.1)]
        show some (i+1,[gt es i])=_
        rw [he]
       ·rename_i he
        unfold after
        rw [if_pos]
        ·rfl
        ·show (decide (i < es.length) && !decide (es[i]?=some (gt cs j)))=true
         rw [decide_eq_true hij.1,some_dec hij.1,decide_eq_false he]
         rfl
      ·cases h
     ·unfold w2 at h
      split at h
      ·rename_i hij
       rw [List.mem_singleton.mp h]
       dsimp only
       rw [Nat.sub_self,List.take_zero]
       unfold after
       rw [if_pos (show fitsB es i _ .lose=true from decide_eq_true hij)]
       rfl
      ·cases h
    ·unfold w3 at h
     split at h
     ·rename_i hij
      rw [List.mem_singleton.mp h]
      dsimp only
      rw [e1,drop_one hij]
      unfold after
      rw [if_pos (show fitsB es i _ (.add _)=true from rfl)]
      rfl
     ·cases h
   ·unfold w4 at h
    split at h
    ·rename_i hij
     rw [List.mem_singleton.mp h]
     dsimp only
     rw [e1,drop_one hij.2.1,take_last hij.1 hj]
     unfold after
     rw [if_pos (show fitsB es i (some _) .twice=true from rfl)]
     show some (i+0,[gt cs (j - 1)])=_
     rw [hij.2.2]
     rfl
    ·cases h
  ·unfold w5 at h
   split at h
   ·rename_i hs
    rw [List.mem_singleton.mp h]
    dsimp only
    rw [e2]
    unfold swapW at hs
    split at hs
    ·rename_i h1
     split at hs
     ·cases hs
     ·rename_i h2
      rw [of_decide_eq_true hs]
      unfold after
      rw [if_pos]
      ·rfl
      ·show (decide (i+1 < es.length) && !decide (es[i]?=es[i+1]?))=true
       rw [decide_eq_true h1,gt_of h1,some_dec (by omega:i < es.length),decide_eq_false h2]
       rfl
    ·cases hs
   ·cases h
 ·unfold w6 at h
  obtain ⟨k,hk,rfl⟩:=List.mem_map.mp h
  dsimp only
  rw [Nat.sub_self,List.take_zero]
  have hk':=skips_in hk
  unfold after
  rw [if_pos]
  ·rfl
  ·show skipB es i k=true
   unfold skips at hk
   rw [if_neg (by omega)] at hk
   obtain ⟨n,hn,rfl⟩:=List.mem_map.mp hk
   have hn2:=of_decide_eq_true (List.mem_filter.mp hn).2
   unfold skipB
   rw [decide_eq_true ⟨hk'.2.2,hk'.2.1⟩,Bool.true_and]
   refine decide_eq_true ?_
   rw [gt_of (show i+(n+1) - 1 < es.length by omega),gt_of (show i - 1 < es.length by omega),<-hn2]
   rfl
theorem told_walk {es cs:List Str} {pr:List Int} {R:Nat->Nat->Int} (hR:Rest (fun i st=>price es i pr st) es.length cs.length (ways es cs) R):∀ (sts:List Sk) (i j:Nat) (pl:List Nat),i<=es.length->j<=cs.length->Told es cs pr R i j sts →
  ∃ pl',walk es sts (i,cs.take j,pl)=some (es.length,cs,pl++pl')/\pl'.length=sts.length/\cost es pr pl' sts=R i j
 | [],i,j,pl,hi,hj,h=>by
  obtain ⟨rfl,rfl⟩:=h
  refine ⟨[],?_,rfl,?_⟩
  ·rw [List.take_length,List.append_nil];rfl
  ·rw [hR.z];rfl
 | st :: r,i,j,pl,hi,hj,h=>by
  obtain ⟨x,hx,rfl,ht⟩:=h
  have hxm:x ∈ cheap es cs pr R i j:=List.mem_of_mem_head? hx
  obtain ⟨hxw,hxe⟩:=cheap_in hxm
  have hf:=ways_fwd es cs i j hi hj x hxw
  have ha:=way_after hxw hi hj
  obtain ⟨pl',h1,h2,h3⟩:=told_walk hR r x.2.1 x.2.2 (pl++[i]) hf.1 hf.2.1 ht
  refine ⟨i :: pl',?_,by rw [List.length_cons,List.length_cons,h2],?_⟩
  ·show (walk1 es (i,cs.take j,pl) x.1).bind (walk es r)=_
   have e:walk1 es (i,cs.take j,pl) x.1=some (x.2.1,cs.take x.2.2,pl++[i]):=by
    unfold walk1
    rw [ha]
    show some (x.2.1,cs.take j++(cs.drop j).take (x.2.2 - j),pl++[i])=_
    rw [<-List.take_add,show j+(x.2.2 - j)=x.2.2 by omega]
   rw [e,Option.bind_some,h1,List.append_assoc]
   rfl
  ·unfold cost
   rw [List.zip_cons_cons,List.map_cons,List.sum_cons,<-hxe,<-h3]
   rfl
theorem told_made {es cs:List Str} {pr:List Int} {R:Nat->Nat->Int} {sts:List Sk} (hR:Rest (fun i st=>price es i pr st) es.length cs.length (ways es cs) R) (h:Told es cs pr R 0 0 sts) (hc:cs.length<=40):∃ pl,made es sts=some (cs,pl)/\walk es sts (0,[],[])=some (es.length,cs,pl)/\cost es pr pl sts=R 0 0:=by
 obtain ⟨pl,h1,h2,h3⟩:=told_walk hR sts 0 0 [] (Nat.zero_le _) (Nat.zero_le _) h
 rw [List.take_zero,List.nil_append] at h1
 refine ⟨pl,?_,h1,h3⟩
 unfold made
 rw [h1,Option.bind_some,if_neg]
 show ¬ (es.length < es.length\/40 < cs.length)
 omega
theorem told_ok {es cs:List Str} {pr:List Int} {R:Nat->Nat->Int} (hgc:∀ z ∈ cs,Good z) (hel:es.length<=80):∀ (sts:List Sk) (i j:Nat),i<=es.length->j<=cs.length->Told es cs pr R i j sts->∀ st ∈ sts,ok80 st
 | [],_,_,_,_,_=>fun _ z=>nomatch z
 | st :: r,i,j,hi,hj,h=>by
  obtain ⟨x,hx,rfl,ht⟩:=h
  have hxw:=(cheap_in (List.mem_of_mem_head? hx)).1
  have hf:=ways_fwd es cs i j hi hj x hxw
  intro s hs
  rcases List.mem_cons.mp hs with rfl | hs
  ·refine ⟨ways_ok hgc (by omega) x hxw,fun m hm=>?_⟩
   have:=(ways_end hxw).1
   rw [hm] at this
   have:x.2.1=i+m:=this
   omega
  ·exact told_ok hgc hel r _ _ hf.1 hf.2.1 ht s hs
theorem items_count:∀ (sts:List Sk) (x:List Str × Nat),(∀ st ∈ sts,okS st)->x.2+sts.length<=1000->(∀ z ∈ x.1,z.length<=60) →
  ((sts.foldl wStep x).1++kw (sts.foldl wStep x).2).length<=x.1.length+min x.2 1+sts.length/\∀ z ∈ (sts.foldl wStep x).1++kw (sts.foldl wStep x).2,z.length<=60
 | [],x,_,hn,hx=>by
  have hn':x.2<=1000:=hn
  refine ⟨by show (x.1++kw x.2).length<=_;rw [List.length_append,kw_min];omega,fun z hz=>?_⟩
  rcases List.mem_append.mp hz with hz | hz
  ·exact hx z hz
  ·exact (kw_len hn').2 z hz
 | st :: r,x,ho,hn,hx=>by
  rw [List.length_cons] at hn
  have hr:∀ s ∈ r,okS s:=fun s hs=>ho s (List.mem_cons_of_mem _ hs)
  rw [List.foldl_cons]
  cases hk:isKeep st with
  | true=>
   have e:wStep x st=(x.1,x.2+1):=by unfold wStep;rw [if_pos hk]
   have ih:=items_count r (x.1,x.2+1) hr (by show x.2+1+r.length<=1000;omega) hx
   rw [e]
   refine ⟨Nat.le_trans ih.1 ?_,ih.2⟩
   show x.1.length+min (x.2+1) 1+r.length<=_
   rw [List.length_cons]
   omega
  | false=>
   have e:wStep x st=(x.1++kw x.2++[itemS st],0):=by unfold wStep;rw [if_neg (by rw [hk];exact Bool.false_ne_true)]
   have ih:=items_count r (x.1++kw x.2++[itemS st],0) hr (by show 0+r.length<=1000;omega) (fun z hz=>by
    rcases List.mem_append.mp hz with hz | hz
    ·rcases List.mem_append.mp hz with hz | hz
     ·exact hx z hz
     ·exact (kw_len (by omega)).2 z hz
    ·rw [List.mem_singleton.mp hz];exact item_len (ho st List.mem_cons_self))
   rw [e]
   refine ⟨Nat.le_trans ih.1 ?_,ih.2⟩
   show (x.1++kw x.2++[itemS st]).length+0+r.length<=x.1.length+min x.2 1+(r.length+1)
   rw [List.length_append,List.length_append,kw_min]
   show _+_+1+0+_<=_
   omega
theorem text_len10 {sts:List Sk} (ho:∀ st ∈ sts,okS st) (hn:sts.length<=80):(textS sts).length<=9000:=by
 obtain ⟨h1,h2⟩:=items_count sts ([],0) ho (by show 0+sts.length<=1000;omega) (fun _ z=>nomatch z)
 have h1':(itemsS sts).length<=0+0+sts.length:=h1
 have h3:=sum60 (ws:=itemsS sts) h2
 unfold textS
 rw [cm_eq]
 show (Builtin.Str.glued cm (itemsS sts)).length<=_
 rw [StrLaws.glued_eq_join]
 have h4:=StrLaws.join_length_le cm (itemsS sts)
 have e:cm.length=2:=rfl
 rw [e] at h4
 omega
theorem bits_cell {ns:List Int} (hb:∀ m ∈ ns,Builtin.Int.intBits m<=1048576) (k:Int):Builtin.Int.intBits (cellD ns k)<=1048576:=by
 unfold cellD
 cases e:ns[k.toNat]? with
 | none=>show Builtin.Int.intBits 0<=_;decide
 | some n=>exact hb n (List.mem_of_getElem? e)
theorem letter_at (r:Int):∃ c,atI (letters.cps.toList) (r % 26)=some c/\Al c:=by
 have h0:0<=r % 26:=Int.emod_nonneg _ (by decide)
 have h1:r % 26 < 26:=Int.emod_lt_of_pos _ (by decide)
 have e:r % 26=((r % 26).toNat:Int):=by omega
 refine ⟨97+(r % 26).toNat,?_,al_mod _ (by omega)⟩
 rw [e]
 refine atI_nat ?_
 rw [letters_cps,List.getElem?_map,List.getElem?_range (by omega)]
 rfl
def Lets (z:Str) (n:Nat):Prop:=z.length=n/\∀ c ∈ z.cps.toList,Al c
theorem lets_app {z:Str} {n c:Nat} (h:Lets z n) (hc:Al c):Lets (z++⟨#[c]⟩) (n+1):=by
 refine ⟨by rw [app_len,h.1];rfl,fun d hd=>?_⟩
 rw [app_list] at hd
 rcases List.mem_append.mp hd with hd | hd
 ·exact h.2 d hd
 ·have:d=c:=by simpa using hd
  rw [this];exact hc
theorem lets_good {z:Str} {n:Nat} (h:Lets z n) (h1:1<=n) (h2:n<=12):Good z:=⟨by rw [h.1];exact h1,by rw [h.1];exact h2,h.2⟩
def mixD (c k:Int):Int:=(c * 2+1) * (k * k * 9176023+84127918273645463728191) % 170141183460469231731687303715884105727
def drawD (c k m:Int):Int:=mixD c k * (mixD c k+5) % 170141183460469231731687303715884105727 / 7 % m
theorem draw_lo (c k:Int) {m:Int} (h:0 < m):0<=drawD c k m:=Int.emod_nonneg _ (by omega)
theorem draw_hi (c k:Int) {m:Int} (h:0 < m):drawD c k m < m:=Int.emod_lt_of_pos _ h
def spDraw:Sp:=fun vs H Q _=>∃ c k m:Int,vs=[.int c,.int k,.int m]/\Builtin.Int.intBits c<=1048576/\0<=k/\k<=100000/\0 < m/\Q (.int (drawD c k m)) H
theorem scDraw:FnScope ["cell","k","many","prime","mixed"] ["cell","k","many"] (defScope sDraw):=⟨rfl,rfl,rfl,by decide +kernel,rfl,by decide +kernel,by decide +kernel⟩
theorem ok_draw {f:Addr} {fd:FuncData} (F:Fun K "_law_draw" "_law_draw" sDraw f fd):FnOk P w K mg base CX0 1 f fd ["cell","k","many"] spDraw:=by
 refine Fun.okR F scDraw (fun vs H Q E h=>?_) (fun cdv A outer s H vs Q Q2 E hr h hq=>?_)
 ·obtain ⟨c,k,m,rfl,_⟩:=h
  rfl
 ·obtain ⟨c,k,m,rfl,hb,hk0,hk1,hm,q⟩:=h
  refine ⟨_,pss_cons (ps_set (i:=3) scDraw.nd rfl (Or.inl rfl) pe_int)
   (pss_cons (ps_set (i:=4) scDraw.nd rfl (Or.inl rfl) (pe_op op_mod (pe_op op_mulB (pe_op op_add (pe_op op_mulB (pv 0) pe_int) pe_int) (pe_op op_add (pe_op op_mulB (pe_op op_mulB (pv 1) (pv 1)) pe_int) pe_int)) (pv 3)))
   (pss_one (ps_ret (pe_op op_mod (pe_op op_fdiv (pe_op op_mod (pe_op op_mulB (pv 4) (pe_op op_add (pv 4) pe_int)) (pv 3)) pe_int) (pv 2))))),?_⟩
  have p0:(0:Int) < 170141183460469231731687303715884105727:=by decide
  have bk:Builtin.Int.intBits k<=20:=intBits_le_iff.mpr (by omega)
  have b2:Builtin.Int.intBits 2<=2:=by decide +kernel
  have b1:Builtin.Int.intBits 1<=1:=by decide +kernel
  have b9:Builtin.Int.intBits 9176023<=24:=by decide +kernel
  have b8:Builtin.Int.intBits 84127918273645463728191<=77:=by decide +kernel
  have b5:Builtin.Int.intBits 5<=3:=by decide +kernel
  have bA:=intBits_add_le (intBits_mul_le hb b2) b1
  have bB:=intBits_add_le (intBits_mul_le (intBits_mul_le bk bk) b9) b8
  have x0:0<=mixD c k:=Int.emod_nonneg _ (by decide)
  have x1:mixD c k < 170141183460469231731687303715884105727:=Int.emod_lt_of_pos _ p0
  have bx:Builtin.Int.intBits (mixD c k)<=127:=intBits_le_iff.mpr (by
   have:(2:Nat) ^ 127=170141183460469231731687303715884105728:=by decide
   rw [this];omega)
  have by5:=intBits_add_le bx b5
  refine ⟨_,rfl,_,_,rfl,rfl,.of_le hb b2 (by decide),_,_,rfl,rfl,_,rfl,_,rfl,_,_,rfl,rfl,.of_le bk bk (by decide),_,_,rfl,rfl,.of_le (intBits_mul_le bk bk) b9 (by decide),_,_,rfl,rfl,_,_,rfl,rfl,.of_le bA bB (by decide),_,rfl,_,_,rfl,rfl,p0,?_⟩
  refine ⟨_,rfl,_,rfl,_,_,rfl,rfl,_,_,rfl,rfl,.of_le bx by5 (by decide),_,rfl,_,_,rfl,rfl,p0,_,_,rfl,rfl,⟨by decide,by decide⟩,_,rfl,_,_,rfl,rfl,hm,hq _ _ (Rst.same (Same.refl H) q)⟩
theorem at4 (c k:Int):∃ n:Nat,atI [V.int 1,.int 2,.int 3,.int 12] (drawD c k 4)=some (.int ((n:Nat):Int))/\1<=n/\n<=12:=by
 have h0:=draw_lo c k (m:=4) (by decide)
 have h1:=draw_hi c k (m:=4) (by decide)
 generalize drawD c k 4=d at h0 h1
 obtain ⟨j,rfl⟩:∃ j:Nat,d=(j:Int):=⟨d.toNat,by omega⟩
 have hj:j < 4:=by omega
 match j,hj with
 | 0,_=>exact ⟨1,rfl,by decide,by decide⟩
 | 1,_=>exact ⟨2,rfl,by decide,by decide⟩
 | 2,_=>exact ⟨3,rfl,by decide,by decide⟩
 | 3,_=>exact ⟨12,rfl,by decide,by decide⟩
def spWordBy:Sp:=fun vs H Q _=>∃ c k:Int,vs=[.int c,.int k]/\Builtin.Int.intBits c<=1048576/\0<=k/\k<=100/\∀ z,Good z->Q (.str z) H
theorem scWordBy:FnScope ["cell","k","word","j"] ["cell","k"] (defScope sWordBy):=⟨rfl,rfl,rfl,by decide +kernel,rfl,by decide +kernel,by decide +kernel⟩
theorem ok_wordby {f gD:Addr} {fd dD:FuncData} (F:Fun K "_law_word_by" "_law_word_by" sWordBy f fd) (DD:Dfn K mg "_law_draw" sDraw gD dD ["cell","k","many"]) (mrange:mg "range" = none):FnOk P w K mg base CX0 2 f fd ["cell","k"] spWordBy:=by
 have GD:FnOk P w K mg base CX0 1 gD dD ["cell","k","many"] spDraw:=ok_draw DD.fn
 refine Fun.okR F scWordBy (fun vs H Q E h=>?_) (fun cdv A outer s H vs Q Q2 E hr h hq=>?_)
 ·obtain ⟨c,k,rfl,_⟩:=h
  rfl
 ·obtain ⟨c,k,rfl,hb,hk0,hk1,q⟩:=h
  refine ⟨_,pss_cons (ps_set (i:=2) scWordBy.nd rfl (Or.inl rfl) pe_str)
   (pss_cons (ps_for PassesOwn.never rfl (pi_range1 (by rfl) mrange (pa_cons (pe_ix ix_list (pe_lst (pa_cons pe_int (pa_cons pe_int (pa_cons pe_int (pa_cons pe_int pa_nil))))) (pe_call GD hr (by rfl) DD.at_ DD.fn.kp DD.bn .nil pass0 (pa_cons (pv 0) (pa_cons (pe_op op_add (pe_op op_mul pe_int (pv 1)) pe_int) (pa_cons pe_int pa_nil)))) (fun _ _=>rfl)) pa_nil)) (pg_name (i:=3) scWordBy.nd rfl (Or.inl rfl))
    (pss_one (ps_set (i:=2) scWordBy.nd rfl (Or.inl rfl) (pe_op op_add_str (pv 2) (pe_ix ix_str pe_str (pe_call GD hr (by rfl) DD.at_ DD.fn.kp DD.bn .nil pass0 (pa_cons (pv 0) (pa_cons (pe_op op_add (pe_op op_add pe_int (pe_op op_mul pe_int (pv 1))) (pv 3)) (pa_cons pe_int pa_nil)))) (fun _ _=>rfl))))))
   (pss_one (ps_ret (pv 2)))),?_⟩
  obtain ⟨n,hn,n1,n2⟩:=at4 c (10 * k+1)
  refine ⟨few (by show 4<=_;omega),fun l hl=>?_⟩
  refine ⟨_,rfl,_,rfl,_,_,rfl,rfl,.inl ⟨by decide,by decide⟩,_,_,rfl,rfl,_,_,_,rfl,hb,(by show (0:Int)<=10 * k+1;omega),(by show 10 * k+1<=100000;omega),(by show (0:Int) < 4;decide),l,_,_,_,rfl,rfl,SqL.of upd_same,hn,((n:Nat):Int),rfl,by omega,by omega,?_⟩
  rw [Int.toNat_natCast]
  refine for_range (n:=n) (fun i σ H2=>∃ (z:Str) (v3:Option V),σ=[some (.int c),some (.int k),some (.str z),v3]/\H2=upd H l (.lst [.int 1,.int 2,.int 3,.int 12])/\Lets z i)
   ⟨Str.ofString "",none,rfl,rfl,by decide +kernel,fun c hc=>absurd hc (by rw [show (Str.ofString "").cps.toList=[] from by decide +kernel];exact List.not_mem_nil)⟩ ?_ ?_
  ·rintro i σ H2 hi ⟨z,v3,rfl,rfl,hz⟩
   obtain ⟨d,hd,ad⟩:=letter_at (mixD c (300+20 * k+(0+((i:Nat):Int))) * (mixD c (300+20 * k+(0+((i:Nat):Int)))+5) % 170141183460469231731687303715884105727 / 7)
   refine ⟨_,rfl,_,rfl,_,rfl,_,_,rfl,rfl,.inl ⟨by decide,by decide⟩,_,_,rfl,rfl,_,rfl,_,_,rfl,rfl,_,_,_,rfl,hb,(by show (0:Int)<=300+20 * k+(0+((i:Nat):Int));omega),(by show 300+20 * k+(0+((i:Nat):Int))<=100000;omega),(by show (0:Int) < 26;decide),letters,_,d,rfl,rfl,(by decide +kernel),hd,_,_,rfl,rfl,few (by rw [hz.1];show _+1<=_;omega),?_⟩
   exact ⟨_,_,rfl,rfl,lets_app hz ad⟩
  ·rintro σ H2 ⟨z,v3,rfl,rfl,hz⟩
   exact ⟨_,rfl,hq _ _ (Rst.same (same_upd hl) (q _ (lets_good hz n1 n2)))⟩
theorem turned_good {z:Str} (g:Good z) {j d:Nat} (hj:j < z.length) (ad:Al d):Good (((⟨(z.cps.toList.take j).toArray⟩:Str)++(⟨#[d]⟩:Str))++(⟨(z.cps.toList.drop (j+1)).toArray⟩:Str)):=by
 have hl:=g.lo
 have hh:=g.hi
 have hz:=clen z
 have l1:(⟨#[d]⟩:Str).length=1:=rfl
 refine ⟨?_,?_,fun c hc=>?_⟩
 ·rw [app_len,app_len,l1]
  omega
 ·rw [app_len,app_len,l1,mk_len,mk_len,List.length_take,List.length_drop]
  omega
 ·rw [app_list,app_list,mk_list,mk_list] at hc
  rcases List.mem_append.mp hc with hc | hc
  ·rcases List.mem_append.mp hc with hc | hc
   ·exact g.al c (List.mem_of_mem_take hc)
   ·have e:c=d:=by simpa using hc
    rw [e];exact ad
  ·exact g.al c (List.mem_of_mem_drop hc)
def spPool:Sp:=fun vs H Q _=>∃ c:Int,vs=[.int c]/\Builtin.Int.intBits c<=1048576/\∀ (p:Addr) (ws:List Str),H p=none->ws.length=5->(∀ z ∈ ws,Good z)->Q (.ref p) (upd H p (.lst (ws.map V.str)))
theorem scPool:FnScope ["cell","pool","at","letter"] ["cell"] (defScope sPool):=⟨rfl,rfl,rfl,by decide +kernel,rfl,by decide +kernel,by decide +kernel⟩
theorem nd_kc:(["k","cell"]:List Str).Nodup:=by decide +kernel
theorem ok_pool {f gD gW:Addr} {fd dD dW:FuncData} (F:Fun K "_law_pool" "_law_pool" sPool f fd) (DD:Dfn K mg "_law_draw" sDraw gD dD ["cell","k","many"]) (DW:Dfn K mg "_law_word_by" sWordBy gW dW ["cell","k"]) (mrange:mg "range" = none) (mlen:mg "len" = none):FnOk P w K mg base CX0 3 f fd ["cell"] spPool:=by
 have GD:FnOk P w K mg base CX0 2 gD dD ["cell","k","many"] spDraw:=(ok_draw DD.fn).mono (by decide)
 have GW:FnOk P w K mg base CX0 2 gW dW ["cell","k"] spWordBy:=ok_wordby DW.fn DD mrange
 refine Fun.okR F scPool (fun vs H Q E h=>?_) (fun cdv A outer s H vs Q Q2 E hr h hq=>?_)
 ·obtain ⟨c,rfl,_⟩:=h
  rfl
 ·obtain ⟨c,rfl,hb,q⟩:=h
  refine ⟨_,pss_cons (ps_setC (i:=1) (Nc:=["k","cell"]) (mp:=[none,some 0]) rfl scPool.nd rfl rfl (CompOk.of (by rfl)) (pi_range1 (by rfl) mrange (pa_cons pe_int pa_nil)) (fun cl C s H fp=>⟨pg_name (i:=0) nd_kc rfl (Or.inl rfl),pts_nil,pe_call GW hr (by rfl) DW.at_ DW.fn.kp DW.bn .nil pass0 (pa_cons (pv 1) (pa_cons (pv 0) pa_nil))⟩))
   (pss_cons (ps_set (i:=2) scPool.nd rfl (Or.inl rfl) (pe_call GD hr (by rfl) DD.at_ DD.fn.kp DD.bn .nil pass0 (pa_cons (pv 0) (pa_cons pe_int (pa_cons (pe_callB call_len_str (by rfl) mlen PySem.boot_len (pa_cons (pe_ix ix_list (pv 1) pe_int (fun _ _=>rfl)) pa_nil)) pa_nil)))))
   (pss_cons (ps_set (i:=3) scPool.nd rfl (Or.inl rfl) (pe_ix ix_str pe_str (pe_call GD hr (by rfl) DD.at_ DD.fn.kp DD.bn .nil pass0 (pa_cons (pv 0) (pa_cons pe_int (pa_cons pe_int pa_nil)))) (fun _ _=>rfl)))
   (pss_one (ps_ret (pe_op op_cat (pv 1) (pe_lst (pa_cons (pe_op op_add_str (pe_op op_add_str (pe_slice sl_str (pe_ix ix_list (pv 1) pe_int (fun _ _=>rfl)) po_none (po_some (pv 2))) (pv 3)) (pe_slice sl_str (pe_ix ix_list (pv 1) pe_int (fun _ _=>rfl)) (po_some (pe_op op_add (pv 2) pe_int)) po_none)) pa_nil))))))),?_⟩
  refine ⟨4,rfl,by decide,by decide,?_⟩
  refine comp_grow (as:=List.range 4) (v:=fun k=>.int (0+((k:Nat):Int))) (fun i acc H'=>H'=H/\∃ ws:List Str,acc=ws.map V.str/\ws.length=i/\∀ z ∈ ws,Good z) (fun i acc H' _ ⟨e,_⟩=>by rw [e];exact src_range 0 4 H) (by rw [List.length_range];exact few (by omega))
   ⟨rfl,[],rfl,rfl,fun _ z=>nomatch z⟩ (fun i acc H' ⟨_,ws,e,hl,_⟩=>by rw [e,List.length_map,hl]) ?_ ?_
  ·rintro i k acc H' hk ⟨rfl,ws,rfl,hl,hw⟩ kk hkk
   have hk':k < 4:=List.mem_range.mp (List.mem_of_getElem? hk)
   refine ⟨_,rfl,_,rfl,_,_,rfl,hb,(by show (0:Int)<=0+((k:Nat):Int);omega),(by show 0+((k:Nat):Int)<=100;omega),fun z hz=>hkk _ _ ⟨rfl,ws++[z],by rw [List.map_append];rfl,by rw [List.length_append,hl];rfl,fun y hy=>?_⟩⟩
   rcases List.mem_append.mp hy with hy | hy
   ·exact hw y hy
   ·rw [List.mem_singleton.mp hy];exact hz
  ·rintro acc H' ⟨rfl,ws,rfl,hl,hw⟩ D hD
   rw [List.length_range] at hl
   have SD:=same_upd (o:=.lst (ws.map V.str)) hD
   obtain ⟨z,rs,rfl⟩:∃ z rs,ws=z :: rs:=by
    cases ws with
    | nil=>simp at hl
    | cons z rs=>exact ⟨z,rs,rfl⟩
   have g:Good z:=hw z (List.mem_cons_self ..)
   have glo:=g.lo
   have ghi:=g.hi
   have hm:(0:Int) < (z.length:Int):=by omega
   have h0:=draw_lo c 61 hm
   have h1:=draw_hi c 61 hm
   obtain ⟨j,hj⟩:∃ j:Nat,drawD c 61 (z.length:Int)=(j:Int):=⟨(drawD c 61 (z.length:Int)).toNat,by omega⟩
   obtain ⟨d,hd,ad⟩:=letter_at (mixD c 62 * (mixD c 62+5) % 170141183460469231731687303715884105727 / 7)
   have c1:cutL z.cps.toList none (some (drawD c 61 (z.length:Int)))=z.cps.toList.take j:=by rw [hj];exact cutL_take _ j
   have c2:cutL z.cps.toList (some (drawD c 61 (z.length:Int)+1)) none=z.cps.toList.drop (j+1):=by
    rw [hj,show ((j:Int)+1)=((j+1:Nat):Int) by omega];exact cutL_drop _ _
   have hz:=clen z
   have l1:(⟨#[d]⟩:Str).length=1:=rfl
   have s1:(⟨(cutL z.cps.toList none (some (drawD c 61 (z.length:Int)))).toArray⟩:Str).length+(⟨#[d]⟩:Str).length<=sizeLine:=by
    rw [c1,l1,mk_len,List.length_take]
    exact few (by omega)
   have s2:((⟨(cutL z.cps.toList none (some (drawD c 61 (z.length:Int)))).toArray⟩:Str)++(⟨#[d]⟩:Str)).length+(⟨(cutL z.cps.toList (some (drawD c 61 (z.length:Int)+1)) none).toArray⟩:Str).length<=sizeLine:=by
    rw [app_len,c1,c2,l1,mk_len,mk_len,List.length_take,List.length_drop]
    exact few (by omega)
   have s3:Good (((⟨(cutL z.cps.toList none (some (drawD c 61 (z.length:Int)))).toArray⟩:Str)++(⟨#[d]⟩:Str))++(⟨(cutL z.cps.toList (some (drawD c 61 (z.length:Int)+1)) none).toArray⟩:Str)):=by
    rw [c1,c2]
    exact turned_good g (by omega) ad
   have uD:upd H' D (.lst ((z :: rs).map V.str)) D=some (.lst ((z :: rs).map V.str)):=upd_same
   have a0:atI ((z :: rs).map V.str) 0=some (.str z):=atI_nat (j:=0) rfl
   generalize upd H' D (.lst ((z :: rs).map V.str))=H1 at SD uD
   refine ⟨_,rfl,_,rfl,D,_,_,_,rfl,rfl,SqL.of uD,a0,z,rfl,g.small,_,_,_,rfl,hb,(by show (0:Int)<=61;decide),(by show (61:Int)<=100000;decide),hm,?_⟩
   refine ⟨_,rfl,_,_,_,rfl,hb,(by show (0:Int)<=62;decide),(by show (62:Int)<=100000;decide),(by show (0:Int) < 26;decide),letters,_,d,rfl,rfl,(by decide +kernel),hd,?_⟩
   refine ⟨_,rfl,_,rfl,D,_,_,_,rfl,rfl,SqL.of uD,a0,_,rfl,_,rfl,z,rfl,g.small,_,rfl,_,_,rfl,rfl,s1,_,rfl,D,_,_,_,rfl,rfl,SqL.of uD,a0,_,rfl,_,_,rfl,rfl,_,rfl,z,rfl,g.small,_,_,rfl,rfl,s2,few (by show 1<=_;omega),fun l2 hl2=>?_⟩
   have S2:=fun y=>same_upd (o:=.lst [.str y]) hl2
   refine ⟨D,l2,_,_,rfl,rfl,S2 _ _ _ uD,upd_same,(by rw [List.length_map,hl];exact few (by show 4+1<=_;omega)),fun l3 hl3=>?_⟩
   have S3:=fun xs=>same_upd (o:=.lst xs) hl3
   have:=q l3 ((z :: rs)++[_]) (SD.free ((S2 _).free hl3)) (by rw [List.length_append,hl];rfl) (fun y hy=>(List.mem_append.mp hy).elim (hw y) fun hy=>by rw [List.mem_singleton.mp hy];exact s3)
   exact hq _ _ (Rst.one ((SD.trans (S2 _)).trans (S3 _)) (SD.free ((S2 _).free hl3)) upd_same trivial (by rw [List.map_append] at this;exact this))
theorem FnOk.or2 {k:Nat} {f:Addr} {fd:FuncData} {ps:List Str} {sp1 sp2 sp:Sp} (F1:FnOk P w K mg base CX0 k f fd ps sp1) (F2:FnOk P w K mg base CX0 k f fd ps sp2) (h:∀ vs H Q E,sp vs H Q E->sp1 vs H Q E\/sp2 vs H Q E):FnOk P w K mg base CX0 k f fd ps sp:=
 ⟨fun vs H Q E hs=>(h vs H Q E hs).elim (F1.len vs H Q E) (F2.len vs H Q E),fun A outer s H args us vs Q E hr he hb hv hs=>(h vs H Q E hs).elim (fun z=>F1.run A outer s H args us vs Q E hr he hb hv z) (fun z=>F2.run A outer s H args us vs Q E hr he hb hv z)⟩
def SameV (H:Hp):Nat->V->V->Prop
 | 0,x,y=>(∃ z,x=.str z/\y=.str z)\/(∃ n,x=.int n/\y=.int n)\/(x=.non/\y=.non)
 | n+1,x,y=>SameV H n x y\/∃ (p r:Addr) (xs ys:List V),x=.ref p/\y=.ref r/\H p=some (.tup xs)/\H r=some (.tup ys)/\xs.length=ys.length/\ys.length<=100000/\∀ (i:Nat) (a b:V),xs[i]?=some a->ys[i]?=some b->SameV H n a b
def spSame (n:Nat):Sp:=fun vs H Q _=>∃ x y,vs=[x,y]/\SameV H n x y/\Q (.bl true) H
def spSameT (n:Nat):Sp:=fun vs H Q _=>∃ (p r:Addr) (xs ys:List V),vs=[.ref p,.ref r]/\H p=some (.tup xs)/\H r=some (.tup ys)/\xs.length=ys.length/\ys.length<=100000/\(∀ (i:Nat) (a b:V),xs[i]?=some a->ys[i]?=some b->SameV H n a b)/\Q (.bl true) H
theorem scSame:FnScope ["found","due"] ["found","due"] (defScope sSame):=⟨rfl,rfl,rfl,by decide +kernel,rfl,by decide +kernel,by decide +kernel⟩
structure Kinds (K:PySem.W.Frag):Prop where
 st:PySem.W.kitOne K (.type "str") (.type "tuple")=some false
 it:PySem.W.kitOne K (.type "int") (.type "tuple")=some false
 is_:PySem.W.kitOne K (.type "int") (.type "str")=some false
 ib:PySem.W.kitOne K (.type "int") (.type "bool")=some false
 nt:PySem.W.kitOne K (.type "NoneType") (.type "tuple")=some false
theorem nd_kfd:(["k","found","due"]:List Str).Nodup:=by decide +kernel
theorem ok_same0 {f:Addr} {fd:FuncData} (F:Fun K "_law_same" "_law_same" sSame f fd) (misi:mg "isinstance" = none) (mtup:mg "tuple" = none) (mstr:mg "str" = none) (mint:mg "int" = none) (mbool:mg "bool" = none) (kk:Kinds K):FnOk P w K mg base CX0 1 f fd ["found","due"] (spSame 0):=by
 refine Fun.okR F scSame (fun vs H Q E h=>?_) (fun cdv A outer s H vs Q Q2 E hr h hq=>?_)
 ·obtain ⟨x,y,rfl,_⟩:=h
  rfl
 ·obtain ⟨x,y,rfl,hs,q⟩:=h
  refine ⟨_,pss_cons (ps_if (pt_val (pe_callB call_isi (by rfl) misi boot_isinstance (pa_cons (pv 1) (pa_cons (pe_bltn (v:=.ty "tuple") (by rfl) mtup boot_tuple rfl) pa_nil)))) pss_never pss_nil)
   (pss_cons (ps_if (pt_cmpR op_isN (pv 1) pe_non (nomark _)) (pss_one (ps_ret (pe_cmpR op_isN (pv 0) pe_non (nomark _)))) pss_nil)
   (pss_cons (ps_if (pt_val (pe_callB call_isi (by rfl) misi boot_isinstance (pa_cons (pv 1) (pa_cons (pe_bltn (v:=.ty "str") (by rfl) mstr boot_str rfl) pa_nil)))) (pss_one (ps_ret (pe_and (pe_callB call_isi (by rfl) misi boot_isinstance (pa_cons (pv 0) (pa_cons (pe_bltn (v:=.ty "str") (by rfl) mstr boot_str rfl) pa_nil))) (pe_one (pe_cmpR op_eq (pv 0) (pv 1) (nomark _)))))) pss_nil)
   (pss_one (ps_ret (pe_and (pe_callB call_isi (by rfl) misi boot_isinstance (pa_cons (pv 0) (pa_cons (pe_bltn (v:=.ty "int") (by rfl) mint boot_int rfl) pa_nil))) (pe_and (pe_not (pe_callB call_isi (by rfl) misi boot_isinstance (pa_cons (pv 0) (pa_cons (pe_bltn (v:=.ty "bool") (by rfl) mbool boot_bool rfl) pa_nil)))) (pe_one (pe_cmpR op_eq (pv 0) (pv 1) (nomark _))))))))),?_⟩
  have go:Q2 (.bl true) H:=hq _ _ (Rst.same (Same.refl H) q)
  rcases hs with ⟨z,rfl,rfl⟩ | ⟨n,rfl,rfl⟩ | ⟨rfl,rfl⟩
  ·refine ⟨_,rfl,_,_,_,_,rfl,.str _,kk.st,_,rfl,iteF ?_⟩
   refine ⟨_,rfl,rfl,_,rfl,iteK (fun z=>nomatch z) ?_⟩
   refine ⟨_,rfl,_,_,_,_,rfl,.str _,kit_same _,_,rfl,iteT ?_⟩
   refine ⟨_,rfl,_,_,_,_,rfl,.str _,kit_same _,true,rfl,iteT ⟨_,rfl,_,rfl,rfl,?_⟩⟩
   rw [decide_eq_true rfl]
   exact go
  ·refine ⟨_,rfl,_,_,_,_,rfl,.int _,kk.it,_,rfl,iteF ?_⟩
   refine ⟨_,rfl,rfl,_,rfl,iteK (fun z=>nomatch z) ?_⟩
   refine ⟨_,rfl,_,_,_,_,rfl,.int _,kk.is_,_,rfl,iteF ?_⟩
   refine ⟨_,rfl,_,_,_,_,rfl,.int _,kit_same _,true,rfl,iteT ?_⟩
   refine ⟨_,rfl,_,_,_,_,rfl,.int _,kk.ib,false,rfl,true,rfl,iteT ⟨_,rfl,_,rfl,rfl,?_⟩⟩
   rw [decide_eq_true rfl]
   exact go
  ·refine ⟨_,rfl,_,_,_,_,rfl,.non,kk.nt,_,rfl,iteF ?_⟩
   refine ⟨_,rfl,rfl,_,rfl,iteY rfl ⟨_,rfl,rfl,?_⟩⟩
   rw [decide_eq_true rfl]
   exact go
theorem ok_sameT {n:Nat} {f:Addr} {fd:FuncData} (F:Fun K "_law_same" "_law_same" sSame f fd) (D:Dfn K mg "_law_same" sSame f fd ["found","due"]) (G:FnOk P w K mg base CX0 (n+1) f fd ["found","due"] (spSame n)) (misi:mg "isinstance" = none) (mtup:mg "tuple" = none) (mlen:mg "len" = none) (mrange:mg "range" = none) (mall:mg "all" = none) (kk:Kinds K):FnOk P w K mg base CX0 (n+2) f fd ["found","due"] (spSameT n):=by
 refine Fun.okR F scSame (fun vs H Q E h=>?_) (fun cdv A outer s H vs Q Q2 E hr h hq=>?_)
 ·obtain ⟨p,r,xs,ys,rfl,_⟩:=h
  rfl
 ·obtain ⟨p,r,xs,ys,rfl,hp,hr2,hl,hn,hs,q⟩:=h
  refine ⟨_,pss_cons (ps_if (pt_val (pe_callB call_isi (by rfl) misi boot_isinstance (pa_cons (pv 1) (pa_cons (pe_bltn (v:=.ty "tuple") (by rfl) mtup boot_tuple rfl) pa_nil)))) (pss_cons (ps_if (pw_or (pt_not (pt_val (pe_callB call_isi (by rfl) misi boot_isinstance (pa_cons (pv 0) (pa_cons (pe_bltn (v:=.ty "tuple") (by rfl) mtup boot_tuple rfl) pa_nil))))) (pw_or1 (pt_cmpR op_ne (pe_callB call_len_seq (by rfl) mlen PySem.boot_len (pa_cons (pv 0) pa_nil)) (pe_callB call_len_seq (by rfl) mlen PySem.boot_len (pa_cons (pv 1) pa_nil)) (nomark _)))).pt (pss_one (ps_ret pe_bl)) pss_nil)
   (pss_one (ps_ret (pe_callB (call_all rfl) (by rfl) mall boot_all (pa_cons (pe_comp (Nc:=["k","found","due"]) (mp:=[none,some 0,some 1]) rfl (CompOk.of (by rfl)) (pi_range1 (by rfl) mrange (pa_cons (pe_callB call_len_seq (by rfl) mlen PySem.boot_len (pa_cons (pv 1) pa_nil)) pa_nil))
    (fun cl C s H fp=>⟨pg_name (i:=0) nd_kfd rfl (Or.inl rfl),pts_nil,pe_call G hr (by rfl) D.at_ D.fn.kp D.bn .nil pass0 (pa_cons (pe_ix (ix_tupK (K:=K) rfl) (pv 1) (pv 0) (fun _ _=>rfl)) (pa_cons (pe_ix (ix_tupK (K:=K) rfl) (pv 2) (pv 0) (fun _ _=>rfl)) pa_nil))⟩)) pa_nil))))) pss_nil) pss_never,?_⟩
  refine ⟨_,rfl,_,_,_,_,rfl,.tup hr2,kit_same _,_,rfl,iteT ?_⟩
  refine ⟨_,rfl,_,_,_,_,rfl,.tup hp,kit_same _,_,rfl,iteF ?_⟩
  refine ⟨_,rfl,p,_,rfl,.inr (SqT.of hp),_,rfl,r,_,rfl,.inr (SqT.of hr2),rfl,_,rfl,iteNS (by rw [hl]) ?_⟩
  refine ⟨_,rfl,r,_,rfl,.inr (SqT.of hr2),_,rfl,(by omega),(by omega),?_⟩
  rw [Int.toNat_natCast]
  refine comp_map (as:=List.range ys.length) (v:=fun k=>.int (0+((k:Nat):Int))) (fun _=>.bl true) (src_range 0 _ H) (by rw [List.length_range];exact few hn) (fun i hi kc hk=>?_) (fun D hD=>?_)
  ·have hi:=List.mem_range.mp hi
   have ei:(0:Int)+((i:Nat):Int)=((i:Nat):Int):=by omega
   rw [ei]
   have hx:i < xs.length:=by omega
   have e1:atI xs ((i:Nat):Int)=some xs[i]:=atI_nat (List.getElem?_eq_getElem hx)
   have e2:atI ys ((i:Nat):Int)=some ys[i]:=atI_nat (List.getElem?_eq_getElem hi)
   exact ⟨_,rfl,_,rfl,p,_,_,_,rfl,rfl,SqT.of hp,e1,_,rfl,_,rfl,r,_,_,_,rfl,rfl,SqT.of hr2,e2,_,_,rfl,hs i _ _ (List.getElem?_eq_getElem hx) (List.getElem?_eq_getElem hi),hk⟩
  ·have hm:(List.range ys.length).map (fun _=>V.bl true)=(List.replicate ys.length true).map V.bl:=by
    rw [List.map_replicate]
    exact List.eq_replicate_iff.mpr ⟨by rw [List.length_map,List.length_range],fun b hb=>by obtain ⟨_,_,e⟩:=List.mem_map.mp hb;exact e.symm⟩
   refine ⟨D,List.replicate ys.length true,rfl,SqL.of (by rw [upd_same,hm]),?_⟩
   have ht:(List.replicate ys.length true).all id=true:=List.all_eq_true.mpr fun b hb=>by rw [List.eq_of_mem_replicate hb];rfl
   rw [ht]
   exact hq _ _ (Rst.same (same_upd hD) q)
theorem ok_same {f:Addr} {fd:FuncData} (F:Fun K "_law_same" "_law_same" sSame f fd) (D:Dfn K mg "_law_same" sSame f fd ["found","due"]) (misi:mg "isinstance" = none) (mtup:mg "tuple" = none) (mstr:mg "str" = none) (mint:mg "int" = none) (mbool:mg "bool" = none) (mlen:mg "len" = none) (mrange:mg "range" = none) (mall:mg "all" = none) (kk:Kinds K):∀ n:Nat,FnOk P w K mg base CX0 (n+1) f fd ["found","due"] (spSame n)
 | 0=>ok_same0 F misi mtup mstr mint mbool kk
 | n+1=>by
  have G:=ok_same F D misi mtup mstr mint mbool mlen mrange mall kk n
  refine FnOk.or2 (G.mono (by omega)) (ok_sameT F D G misi mtup mlen mrange mall kk) fun vs H Q E h=>?_
  obtain ⟨x,y,rfl,hs,q⟩:=h
  rcases hs with h | ⟨p,r,xs,ys,rfl,rfl,h⟩
  ·exact .inl ⟨x,y,rfl,h,q⟩
  ·exact .inr ⟨p,r,xs,ys,rfl,h.1,h.2.1,h.2.2.1,h.2.2.2.1,h.2.2.2.2,q⟩
def PoolAt (H:Hp) (a:Addr) (ws:List Str):Prop:=H a=some (.lst (ws.map V.str))/\1<=ws.length/\ws.length<=100/\∀ z ∈ ws,Good z
theorem PoolAt.mono {H H':Hp} {a:Addr} {ws:List Str} (S:Same H H') (h:PoolAt H a ws):PoolAt H' a ws:=⟨S _ _ h.1,h.2⟩
theorem pool_pick {ws:List Str} (h1:1<=ws.length) (hg:∀ z ∈ ws,Good z) (c k:Int):∃ z,atI (ws.map V.str) (drawD c k ((ws.map V.str).length:Int))=some (.str z)/\Good z:=by
 have hm:(0:Int) < ((ws.map V.str).length:Int):=by rw [List.length_map];omega
 have d0:=draw_lo c k hm
 have d1:=draw_hi c k hm
 obtain ⟨j,hj⟩:∃ j:Nat,drawD c k ((ws.map V.str).length:Int)=(j:Int):=⟨(drawD c k ((ws.map V.str).length:Int)).toNat,by omega⟩
 have hjl:j < ws.length:=by
  rw [hj,List.length_map] at d1
  omega
 exact ⟨ws[j],by rw [hj];exact atI_nat (by rw [List.getElem?_map,List.getElem?_eq_getElem hjl];rfl),hg _ (List.getElem_mem hjl)⟩
def spRowBy:Sp:=fun vs H Q _=>∃ (c:Int) (a:Addr) (ws:List Str) (m:Nat),vs=[.int c,.ref a,.int ((m:Nat):Int)]/\Builtin.Int.intBits c<=1048576/\PoolAt H a ws/\m<=50/\∀ (p:Addr) (es:List Str),H p=none->(∀ z ∈ es,Good z)->es.length<=m->Q (.ref p) (upd H p (.tup (es.map V.str)))
theorem scRowBy:FnScope ["cell","pool","most"] ["cell","pool","most"] (defScope sRowBy):=⟨rfl,rfl,rfl,by decide +kernel,rfl,by decide +kernel,by decide +kernel⟩
theorem nd_kcp:(["k","cell","pool"]:List Str).Nodup:=by decide +kernel
theorem ok_rowby {f gD:Addr} {fd dD:FuncData} (F:Fun K "_law_row_by" "_law_row_by" sRowBy f fd) (DD:Dfn K mg "_law_draw" sDraw gD dD ["cell","k","many"]) (mrange:mg "range" = none) (mlen:mg "len" = none) (mtup:mg "tuple" = none):FnOk P w K mg base CX0 2 f fd ["cell","pool","most"] spRowBy:=by
 have GD:FnOk P w K mg base CX0 1 gD dD ["cell","k","many"] spDraw:=ok_draw DD.fn
 refine Fun.okR F scRowBy (fun vs H Q E h=>?_) (fun cdv A outer s H vs Q Q2 E hr h hq=>?_)
 ·obtain ⟨c,a,ws,m,rfl,_⟩:=h
  rfl
 ·obtain ⟨c,a,ws,m,rfl,hb,⟨ha,w1,w2,hg⟩,hm,q⟩:=h
  refine ⟨_,pss_one (ps_ret (pe_callTy call_tuple_of (by rfl) mtup boot_tuple (pa_cons (pe_comp (Nc:=["k","cell","pool"]) (mp:=[none,some 0,some 1]) rfl (CompOk.of (by rfl)) (pi_range1 (by rfl) mrange (pa_cons (pe_call GD hr (by rfl) DD.at_ DD.fn.kp DD.bn .nil pass0 (pa_cons (pv 0) (pa_cons pe_int (pa_cons (pe_op op_add (pv 2) pe_int) pa_nil)))) pa_nil))
   (fun cl C s H fp=>⟨pg_name (i:=0) nd_kcp rfl (Or.inl rfl),pts_nil,pe_ix (ix_listK (K:=K) rfl) (pv 2) (pe_call GD hr (by rfl) DD.at_ DD.fn.kp DD.bn .nil pass0 (pa_cons (pv 1) (pa_cons (pe_op op_add pe_int (pv 0)) (pa_cons (pe_callB (call_len_seqK (K:=K) rfl) (by rfl) mlen PySem.boot_len (pa_cons (pv 2) pa_nil)) pa_nil)))) (fun _ _=>rfl)⟩)) pa_nil))),?_⟩
  have m0:(0:Int) < ((m:Nat):Int)+1:=by omega
  have d0:=draw_lo c 399 m0
  have d1:=draw_hi c 399 m0
  obtain ⟨n,hn⟩:∃ n:Nat,drawD c 399 (((m:Nat):Int)+1)=(n:Int):=⟨(drawD c 399 (((m:Nat):Int)+1)).toNat,by omega⟩
  refine ⟨_,rfl,_,rfl,_,_,rfl,rfl,_,_,_,rfl,hb,(by show (0:Int)<=399;decide),(by show (399:Int)<=100000;decide),m0,((n:Nat):Int),(by rw [hn]),by omega,by omega,?_⟩
  rw [Int.toNat_natCast]
  have hlen:(0:Int) < ((ws.map V.str).length:Int):=by rw [List.length_map];omega
  refine comp_grow (as:=List.range n) (v:=fun k=>.int (0+((k:Nat):Int))) (fun i acc H'=>H'=H/\∃ es:List Str,acc=es.map V.str/\es.length=i/\∀ z ∈ es,Good z) (fun i acc H' _ ⟨e,_⟩=>by rw [e];exact src_range 0 n H) (by rw [List.length_range];exact few (by omega))
   ⟨rfl,[],rfl,rfl,fun _ z=>nomatch z⟩ (fun i acc H' ⟨_,es,e,hl,_⟩=>by rw [e,List.length_map,hl]) ?_ ?_
  ·rintro i k acc H' hk ⟨rfl,es,rfl,hl,hw⟩ kk hkk
   have hk':k < n:=List.mem_range.mp (List.mem_of_getElem? hk)
   obtain ⟨z,az,gz⟩:=pool_pick w1 hg c (400+(0+((k:Nat):Int)))
   refine ⟨_,rfl,_,rfl,_,rfl,_,_,rfl,rfl,_,rfl,a,_,rfl,.inl (SqL.of ha),_,_,_,rfl,hb,(by show (0:Int)<=400+(0+((k:Nat):Int));omega),(by show 400+(0+((k:Nat):Int))<=100000;omega),hlen,a,_,_,_,rfl,rfl,SqL.of ha,az,hkk _ _ ⟨rfl,es++[z],by rw [List.map_append];rfl,by rw [List.length_append,hl];rfl,fun y hy=>?_⟩⟩
   rcases List.mem_append.mp hy with hy | hy
   ·exact hw y hy
   ·rw [List.mem_singleton.mp hy];exact gz
  ·rintro acc H' ⟨rfl,es,rfl,hl,hw⟩ D hD
   rw [List.length_range] at hl
   refine ⟨D,_,rfl,.inl ⟨SqL.of upd_same,fun p hp=>?_⟩⟩
   have S1:=same_upd (o:=.lst (es.map V.str)) hD
   have S2:=same_upd (o:=.tup (es.map V.str)) hp
   exact hq _ _ (Rst.one (S1.trans S2) (S1.free hp) upd_same trivial (q p es (S1.free hp) hw (by omega)))
theorem cut_strs (ws:List Str) (lo hi:Option Int):∃ ms:List Str,cutV (ws.map V.str) lo hi=ms.map V.str/\(∀ m ∈ ms,m ∈ ws)/\ms.length<=ws.length:=by
 unfold cutV
 refine ⟨(ws.drop (HT.sIx (ws.map V.str).length 0 lo)).take (HT.sIx (ws.map V.str).length (ws.map V.str).length hi - HT.sIx (ws.map V.str).length 0 lo),by rw [<-List.map_drop,<-List.map_take],fun m hm=>List.mem_of_mem_drop (List.mem_of_mem_take hm),?_⟩
 rw [List.length_take,List.length_drop]
 omega
theorem sIx_neg2 {n d:Nat} (h:1 < n):HT.sIx n d (some (-2))=n - 2:=by
 show (if (-2:Int) < 0 then (-2+(n:Int)).toNat else min ((-2:Int)).toNat n)=_
 rw [if_pos (by decide)]
 omega
theorem last2_at {cp:List Str} (h:1 < cp.length):∃ l ∈ cp,atI (cp.map V.str) (-2)=some (.str l):=by
 have hl:cp.length - 2 < cp.length:=by omega
 refine ⟨cp[cp.length - 2],List.getElem_mem hl,?_⟩
 unfold atI
 have e:ixN (cp.map V.str).length (-2)=some (cp.length - 2):=by
  unfold ixN
  rw [if_neg (by omega),if_pos (by rw [List.length_map];omega)]
  congr 1
  rw [List.length_map]
  omega
 rw [e]
 show (cp.map V.str)[cp.length - 2]?=_
 rw [List.getElem?_map,List.getElem?_eq_getElem hl]
 rfl
def CopyAt (H H2:Hp) (l:Addr) (cw:List Str) (n:Nat):Prop:=H2 l=some (.lst (cw.map V.str))/\H l=none/\Same H H2/\cw.length<=n/\∀ z ∈ cw,Good z
theorem CopyAt.push {H H2:Hp} {l:Addr} {cw:List Str} {n:Nat} {z:Str} (h:CopyAt H H2 l cw n) (hz:Good z):CopyAt H (upd H2 l (.lst (cw.map V.str++[.str z]))) l (cw++[z]) (n+1):=
 ⟨by rw [upd_same,List.map_append];rfl,h.2.1,same_to h.2.2.1 h.2.1,by rw [List.length_append];show _+1<=_;have:=h.2.2.2.1;omega,fun y hy=>(List.mem_append.mp hy).elim (h.2.2.2.2 y) fun hy=>by rw [List.mem_singleton.mp hy];exact hz⟩
theorem CopyAt.more {H H2:Hp} {l:Addr} {cw:List Str} {n n':Nat} (h:CopyAt H H2 l cw n) (hn:n<=n'):CopyAt H H2 l cw n':=⟨h.1,h.2.1,h.2.2.1,by have:=h.2.2.2.1;omega,h.2.2.2.2⟩
theorem CopyAt.keep {H H2 H3:Hp} {l:Addr} {cw:List Str} {n:Nat} (h:CopyAt H H2 l cw n) (S:Same H2 H3):CopyAt H H3 l cw n:=⟨S _ _ h.1,h.2.1,h.2.2.1.trans S,h.2.2.2⟩
theorem CopyAt.fresh {H H2:Hp} {l p:Addr} {cw ms:List Str} {n:Nat} (h:CopyAt H H2 l cw n) (hp:H2 p=none) (hl:ms.length<=n) (hg:∀ z ∈ ms,Good z):CopyAt H (upd H2 p (.lst (ms.map V.str))) p ms n:=
 ⟨upd_same,h.2.2.1.free hp,h.2.2.1.trans (same_upd hp),hl,hg⟩
def spCopyBy (K:PySem.W.Frag):Sp:=fun vs H Q _=>∃ (b:Addr) (bs:List Str) (c:Int) (a:Addr) (ws:List Str) (m:Nat),vs=[.ref b,.int c,.ref a,.int ((m:Nat):Int)]/\SqT K H b (bs.map V.str)/\(∀ z ∈ bs,Good z)/\bs.length<=50/\Builtin.Int.intBits c<=1048576/\PoolAt H a ws/\m<=50/\∀ (p:Addr) (es:List Str),H p=none->(∀ z ∈ es,Good z)->es.length<=m->Q (.ref p) (upd H p (.tup (es.map V.str)))
theorem scCopyBy:FnScope ["base","cell","pool","most","copy","k","way","word"] ["base","cell","pool","most"] (defScope sCopyBy):=⟨rfl,rfl,rfl,by decide +kernel,rfl,by decide +kernel,by decide +kernel⟩
theorem ok_copyby {f gD:Addr} {fd dD:FuncData} (F:Fun K "_law_copy_by" "_law_copy_by" sCopyBy f fd) (DD:Dfn K mg "_law_draw" sDraw gD dD ["cell","k","many"]) (mrange:mg "range" = none) (mlen:mg "len" = none) (mtup:mg "tuple" = none) (mint:mg "int" = none):FnOk P w K mg base CX0 2 f fd ["base","cell","pool","most"] (spCopyBy K):=by
 have GD:FnOk P w K mg base CX0 1 gD dD ["cell","k","many"] spDraw:=ok_draw DD.fn
 refine Fun.okR F scCopyBy (fun vs H Q E h=>?_) (fun cdv A outer s H vs Q Q2 E hr h hq=>?_)
 ·obtain ⟨b,bs,c,a,ws,m,rfl,_⟩:=h
  rfl
 ·obtain ⟨b,bs,c,a,ws,m,rfl,hbs,hbg,hbl,hb,hPool,hm,q⟩:=h
  refine ⟨_,pss_cons (ps_set (i:=4) scCopyBy.nd rfl (Or.inl rfl) (pe_lst pa_nil))
   (pss_cons (ps_for PassesOwn.never rfl (pi_range1 (by rfl) mrange (pa_cons (pe_op op_add (pe_callB call_len_seq (by rfl) mlen PySem.boot_len (pa_cons (pv 0) pa_nil)) pe_int) pa_nil)) (pg_name (i:=5) scCopyBy.nd rfl (Or.inl rfl))
    (pss_cons (ps_set (i:=6) scCopyBy.nd rfl (Or.inl rfl) (pe_call GD hr (by rfl) DD.at_ DD.fn.kp DD.bn .nil pass0 (pa_cons (pv 1) (pa_cons (pe_op op_add (pe_op op_mul pe_int (pv 5)) pe_int) (pa_cons pe_int pa_nil)))))
    (pss_cons (ps_set (i:=7) scCopyBy.nd rfl (Or.inl rfl) (pe_ix ix_list (pv 2) (pe_call GD hr (by rfl) DD.at_ DD.fn.kp DD.bn .nil pass0 (pa_cons (pv 1) (pa_cons (pe_op op_add (pe_op op_mul pe_int (pv 5)) pe_int) (pa_cons (pe_callB call_len_seq (by rfl) mlen PySem.boot_len (pa_cons (pv 2) pa_nil)) pa_nil)))) (fun _ _=>rfl)))
    (pss_cons (ps_mid (ps_if (pt_cmpR op_eq (pv 6) pe_int (nomark _)) (pss_one (ps_expr (pe_bm PySem.F.plainAttrs_list PySem.F.slot_list_append PySem.F.type_list_append mt_append (pv 4) (pa_cons (pv 7) pa_nil)))) pss_nil))
    (pss_cons (ps_mid (ps_if (pw_and (pt_cmpR op_eq (pv 6) pe_int (nomark _)) (pw_and1 (pt_cmpR (op_neS hr.units) (pv 4) (pe_lst pa_nil) (nomark _)))).pt (pss_one (ps_expr (pe_bm PySem.F.plainAttrs_list PySem.F.slot_list_append PySem.F.type_list_append mt_append (pv 4) (pa_cons (pe_ix ix_list (pv 4) (pe_un un_neg pe_int) (fun _ _=>rfl)) pa_nil)))) pss_nil))
    (pss_cons (ps_mid (ps_if (pw_and (pt_cmpR op_lt (pv 5) (pe_callB call_len_seq (by rfl) mlen PySem.boot_len (pa_cons (pv 0) pa_nil)) (nomark _)) (pw_and (pt_cmpR op_ne (pv 6) pe_int (nomark _)) (pw_and1 (pt_cmpR op_ne (pv 6) pe_int (nomark _))))).pt (pss_one (ps_expr (pe_bm PySem.F.plainAttrs_list PySem.F.slot_list_append PySem.F.type_list_append mt_append (pv 4) (pa_cons (pe_ix ix_list (pe_lst (pa_cons (pe_ix ix_tup (pv 0) (pv 5) (fun _ _=>rfl)) (pa_cons (pv 7) pa_nil))) (pe_callTy call_int1 (by rfl) mint boot_int (pa_cons (pe_cmpR op_eq (pv 6) pe_int (nomark _)) pa_nil)) (fun _ _=>rfl)) pa_nil)))) pss_nil))
    (pss_cons (ps_mid (ps_if (pw_and (pt_cmpR op_eq (pv 6) pe_int (nomark _)) (pw_and1 (pt_cmpR op_gt (pe_callB call_len_seq (by rfl) mlen PySem.boot_len (pa_cons (pv 4) pa_nil)) pe_int (nomark _)))).pt (pss_one (ps_set (i:=4) scCopyBy.nd rfl (Or.inl rfl) (pe_op op_cat (pe_slice sl_lst (pv 4) po_none (po_some (pe_un un_neg pe_int))) (pe_lst (pa_cons (pe_ix ix_list (pv 4) (pe_un un_neg pe_int) (fun _ _=>rfl)) (pa_cons (pe_ix ix_list (pv 4) (pe_un un_neg pe_int) (fun _ _=>rfl)) pa_nil)))))) pss_nil))
    (pss_one (ps_mid (ps_if (pw_and (pt_cmpR op_eq (pv 6) pe_int (nomark _)) (pw_and (pt_cmpR op_gt (pv 5) pe_int (nomark _)) (pw_and (pt_cmpR op_lt (pv 5) (pe_callB call_len_seq (by rfl) mlen PySem.boot_len (pa_cons (pv 0) pa_nil)) (nomark _)) (pw_and1 (pt_cmpR op_eq (pe_call GD hr (by rfl) DD.at_ DD.fn.kp DD.bn .nil pass0 (pa_cons (pv 1) (pa_cons (pe_op op_add (pe_op op_mul pe_int (pv 5)) pe_int) (pa_cons pe_int pa_nil)))) pe_int (nomark _)))))).pt (pss_one (ps_set (i:=4) scCopyBy.nd rfl (Or.inl rfl) (pe_slice sl_lst (pv 4) po_none (po_some (pe_un un_neg pe_int))))) pss_nil))))))))))
   (pss_one (ps_ret (pe_callTy call_tuple_of (by rfl) mtup boot_tuple (pa_cons (pe_slice sl_lst (pv 4) po_none (po_some (pv 3))) pa_nil))))),?_⟩
  have hle:(bs.map V.str).length=bs.length:=List.length_map ..
  refine ⟨Nat.zero_le _,fun l hl=>?_⟩
  have S0:=same_upd (o:=.lst []) hl
  refine ⟨_,rfl,b,_,rfl,.inr (sameT S0 hbs),_,_,rfl,rfl,_,rfl,by omega,by omega,?_⟩
  rw [hle,show ((bs.length:Int)+1).toNat=bs.length+1 by omega]
  refine for_range (fun i σ H2=>∃ (l:Addr) (cw:List Str) (v5 v6 v7:Option V),σ=[some (.ref b),some (.int c),some (.ref a),some (.int ((m:Nat):Int)),some (.ref l),v5,v6,v7]/\CopyAt H H2 l cw (3 * i))
   ⟨l,[],none,none,none,rfl,upd_same,hl,S0,Nat.le_refl _,fun _ z=>nomatch z⟩ ?_ ?_
  ·rintro i σ H2 hi ⟨l,cw,v5,v6,v7,rfl,hC⟩
   have ei:(0:Int)+((i:Nat):Int)=((i:Nat):Int):=by omega
   rw [ei]
   obtain ⟨ha2,w1,w2,hg⟩:=hPool.mono hC.2.2.1
   have hlen:(0:Int) < ((ws.map V.str).length:Int):=by rw [List.length_map];omega
   obtain ⟨z,az,gz⟩:=pool_pick w1 hg c (3 * ((i:Nat):Int)+2)
   refine ⟨_,rfl,_,rfl,_,_,rfl,rfl,.inl ⟨by decide,by decide⟩,_,_,rfl,rfl,_,_,_,rfl,hb,(by show (0:Int)<=3 * ((i:Nat):Int)+1;omega),(by show 3 * ((i:Nat):Int)+1<=100000;omega),(by show (0:Int) < 10;decide),?_⟩
   refine ⟨_,rfl,_,rfl,_,rfl,_,_,rfl,rfl,.inl ⟨by decide,by decide⟩,_,_,rfl,rfl,_,rfl,a,_,rfl,.inl (SqL.of ha2),_,_,_,rfl,hb,(by show (0:Int)<=3 * ((i:Nat):Int)+2;omega),(by show 3 * ((i:Nat):Int)+2<=100000;omega),hlen,a,_,_,_,rfl,rfl,SqL.of ha2,az,?_⟩
   generalize drawD c (3 * ((i:Nat):Int)+1) 10=way
   clear hlen ha2 w1 w2 hg az
   -- way 0
   refine ⟨fun σ' H'=>∃ (l:Addr) (cw:List Str),σ'=[some (.ref b),some (.int c),some (.ref a),some (.int ((m:Nat):Int)),some (.ref l),some (.int ((i:Nat):Int)),some (.int way),some (.str z)]/\CopyAt H H' l cw (3 * i+1),?_,?_⟩
   ·refine ⟨_,rfl,rfl,_,rfl,ite2 (fun _=>?_) (fun _=>⟨l,cw,rfl,hC.more (by omega)⟩)⟩
    exact ⟨_,rfl,.inl ⟨rfl,_,SqL.of hC.1⟩,_,rfl,l,_,_,rfl,rfl,hC.1,(by rw [List.length_map];exact fewer (by have:=hC.2.2.2.1;omega)),l,_,rfl,hC.push gz⟩
   clear hC
   rintro σ' H3 ⟨l,cw,rfl,hC⟩
   -- way 1
   refine ⟨fun σ' H'=>∃ (l:Addr) (cw:List Str),σ'=[some (.ref b),some (.int c),some (.ref a),some (.int ((m:Nat):Int)),some (.ref l),some (.int ((i:Nat):Int)),some (.int way),some (.str z)]/\CopyAt H H' l cw (3 * i+2),?_,?_⟩
   ·refine ⟨_,rfl,rfl,_,rfl,ite2 (fun _=>?_) (fun _=>iteF ⟨l,cw,rfl,hC.more (by omega)⟩)⟩
    refine ⟨_,rfl,Nat.zero_le _,fun le hle'=>?_⟩
    have Se:=same_upd (o:=.lst []) hle'
    have hC':=hC.keep Se
    refine ⟨0,decide (cw=[]),by decide,?_,_,rfl,ite2 (fun h=>?_) (fun _=>⟨l,cw,rfl,hC'.more (by omega)⟩)⟩
    ·have:=EqS.strs (K:=K) (H:=upd H3 le (.lst [])) (p:=l) (r:=le) (xs:=cw) (ys:=[]) (.inl ⟨SqL.of hC'.1,SqL.of upd_same⟩)
     exact this
    ·have hne:cw ≠ []:=fun e=>by rw [e] at h;exact absurd h (by decide)
     obtain ⟨y,ey,ay⟩:=last_at (cp:=cw) (List.length_pos_iff.mpr hne)
     refine ⟨_,rfl,.inl ⟨rfl,_,SqL.of hC'.1⟩,_,rfl,_,rfl,l,_,_,_,rfl,rfl,SqL.of hC'.1,ay,l,_,_,rfl,rfl,hC'.1,(by rw [List.length_map];exact fewer (by have:=hC.2.2.2.1;omega)),l,_,rfl,hC'.push (hC.2.2.2.2 y (List.mem_of_getLast? ey))⟩
   clear hC
   rintro σ' H3 ⟨l,cw,rfl,hC⟩
   -- the base's word
   refine ⟨fun σ' H'=>∃ (l:Addr) (cw:List Str),σ'=[some (.ref b),some (.int c),some (.ref a),some (.int ((m:Nat):Int)),some (.ref l),some (.int ((i:Nat):Int)),some (.int way),some (.str z)]/\CopyAt H H' l cw (3 * i+3),?_,?_⟩
   ·have hbs3:=sameT hC.2.2.1 hbs
    refine ⟨_,rfl,_,rfl,b,_,rfl,.inr hbs3,_,_,rfl,rfl,_,rfl,ite2 (fun hlt=>?_) (fun _=>iteF ⟨l,cw,rfl,hC.more (by omega)⟩)⟩
    have hlt:=of_decide_eq_true hlt
    rw [hle] at hlt
    have hib:i < bs.length:=by omega
    refine ⟨_,rfl,rfl,_,rfl,ite2 (fun _=>?_) (fun _=>iteF ⟨l,cw,rfl,hC.more (by omega)⟩)⟩
    refine ⟨_,rfl,rfl,_,rfl,ite2 (fun _=>?_) (fun _=>⟨l,cw,rfl,hC.more (by omega)⟩)⟩
    have ab:atI (bs.map V.str) ((i:Nat):Int)=some (.str bs[i]):=atI_nat (by rw [List.getElem?_map,List.getElem?_eq_getElem hib];rfl)
    refine ⟨_,rfl,.inl ⟨rfl,_,SqL.of hC.1⟩,_,rfl,_,rfl,b,_,_,_,rfl,rfl,hbs3,ab,_,rfl,few (by show 2<=_;omega),fun le hle'=>?_⟩
    have Se:=same_upd (o:=.lst [V.str bs[i],.str z]) hle'
    have hC':=hC.keep Se
    have pick:∃ y,atI [V.str bs[i],.str z] (if decide (V.int way=V.int 4)=true then 1 else 0)=some (.str y)/\Good y:=by
     by_cases h:decide (V.int way=V.int 4)=true
     ·rw [if_pos h];exact ⟨z,rfl,gz⟩
     ·rw [if_neg h];exact ⟨bs[i],rfl,hbg _ (List.getElem_mem hib)⟩
    obtain ⟨y,ay,gy⟩:=pick
    exact ⟨_,rfl,rfl,.inr ⟨_,rfl,le,_,_,_,rfl,rfl,SqL.of upd_same,ay,l,_,_,rfl,rfl,hC'.1,(by rw [List.length_map];exact fewer (by have:=hC.2.2.2.1;omega)),l,_,rfl,hC'.push gy⟩⟩
   clear hC
   rintro σ' H3 ⟨l,cw,rfl,hC⟩
   -- way 5
   refine ⟨fun σ' H'=>∃ (l:Addr) (cw:List Str),σ'=[some (.ref b),some (.int c),some (.ref a),some (.int ((m:Nat):Int)),some (.ref l),some (.int ((i:Nat):Int)),some (.int way),some (.str z)]/\CopyAt H H' l cw (3 * i+3),?_,?_⟩
   ·refine ⟨_,rfl,rfl,_,rfl,ite2 (fun _=>?_) (fun _=>iteF ⟨l,cw,rfl,hC⟩)⟩
    refine ⟨_,rfl,l,_,rfl,.inl (SqL.of hC.1),_,_,rfl,rfl,_,rfl,ite2 (fun hlt=>?_) (fun _=>⟨l,cw,rfl,hC⟩)⟩
    have hlt:=of_decide_eq_true hlt
    rw [List.length_map] at hlt
    have hcl:1 < cw.length:=by omega
    obtain ⟨y1,e1,a1⟩:=last_at (cp:=cw) (by omega)
    obtain ⟨y2,e2,a2⟩:=last2_at hcl
    have hcut:cutV (cw.map V.str) none (some (-2))=(cw.take (cw.length - 2)).map V.str:=by
     unfold cutV
     rw [HT.sIx_none,List.drop_zero,Nat.sub_zero,List.map_take]
     congr 1
     show HT.sIx (cw.map V.str).length (cw.map V.str).length (some (-2))=_
     rw [List.length_map]
     exact sIx_neg2 hcl
    refine ⟨_,rfl,_,rfl,_,rfl,l,_,rfl,SqL.of hC.1,fun p1 hp1=>?_⟩
    rw [hcut]
    have Sp:=same_upd (o:=.lst ((cw.take (cw.length - 2)).map V.str)) hp1
    have hC1:=hC.keep Sp
    refine ⟨_,rfl,_,rfl,l,_,_,_,rfl,rfl,SqL.of hC1.1,a1,_,rfl,_,rfl,l,_,_,_,rfl,rfl,SqL.of hC1.1,a2,few (by show 2<=_;omega),fun p2 hp2=>?_⟩
    have Sq:=same_upd (o:=.lst [V.str y1,.str y2]) hp2
    have hC2:=hC1.keep Sq
    refine ⟨p1,p2,_,_,rfl,rfl,Sq _ _ upd_same,upd_same,(by rw [List.length_map,List.length_take];exact few (by show _+2<=_;have:=hC.2.2.2.1;omega)),fun p3 hp3=>⟨p3,cw.take (cw.length - 2)++[y1,y2],rfl,?_⟩⟩
    have hnew:=hC2.fresh (ms:=cw.take (cw.length - 2)++[y1,y2]) hp3 (by rw [List.length_append,List.length_take];show _+2<=_;have:=hC.2.2.2.1;omega) (fun z hz=>by
     rcases List.mem_append.mp hz with hz | hz
     ·exact hC.2.2.2.2 z (List.mem_of_mem_take hz)
     ·rcases List.mem_cons.mp hz with e | hz
      ·rw [e];exact hC.2.2.2.2 y1 (List.mem_of_getLast? e1)
      ·rw [List.mem_singleton.mp hz];exact hC.2.2.2.2 y2 e2)
    rw [List.map_append] at hnew
    exact hnew
   clear hC
   rintro σ' H3 ⟨l,cw,rfl,hC⟩
   -- way 6
   refine ⟨fun σ' H'=>∃ (l:Addr) (cw:List Str),σ'=[some (.ref b),some (.int c),some (.ref a),some (.int ((m:Nat):Int)),some (.ref l),some (.int ((i:Nat):Int)),some (.int way),some (.str z)]/\CopyAt H H' l cw (3 * i+3),?_,?_⟩
   ·have hbs3:=sameT hC.2.2.1 hbs
    refine ⟨_,rfl,rfl,_,rfl,ite2 (fun _=>?_) (fun _=>iteF ⟨l,cw,rfl,hC⟩)⟩
    refine ⟨_,rfl,_,_,rfl,rfl,_,rfl,ite2 (fun _=>?_) (fun _=>iteF ⟨l,cw,rfl,hC⟩)⟩
    refine ⟨_,rfl,_,rfl,b,_,rfl,.inr hbs3,_,_,rfl,rfl,_,rfl,ite2 (fun _=>?_) (fun _=>iteF ⟨l,cw,rfl,hC⟩)⟩
    refine ⟨_,rfl,_,rfl,_,_,rfl,rfl,.inl ⟨by decide,by decide⟩,_,_,rfl,rfl,_,_,_,rfl,hb,(by show (0:Int)<=3 * ((i:Nat):Int)+3;omega),(by show 3 * ((i:Nat):Int)+3<=100000;omega),(by show (0:Int) < 3;decide),rfl,_,rfl,ite2 (fun _=>?_) (fun _=>⟨l,cw,rfl,hC⟩)⟩
    obtain ⟨ms,ecut,hms,hml⟩:=cut_strs cw none (some (-1))
    refine ⟨_,rfl,_,rfl,_,rfl,l,_,rfl,SqL.of hC.1,fun p1 hp1=>⟨p1,ms,rfl,?_⟩⟩
    rw [ecut]
    exact hC.fresh hp1 (by have:=hC.2.2.2.1;omega) (fun z hz=>hC.2.2.2.2 z (hms z hz))
   ·rintro σ' H3 ⟨l,cw,rfl,hC⟩
    exact ⟨l,cw,_,_,_,rfl,hC.more (by omega)⟩
  ·rintro σ H2 ⟨l,cw,v5,v6,v7,rfl,hC⟩
   refine ⟨_,rfl,_,rfl,_,rfl,l,_,rfl,SqL.of hC.1,fun p1 hp1=>?_⟩
   rw [cutTake V.str cw m]
   have S1:=same_upd (o:=.lst ((cw.take m).map V.str)) hp1
   refine ⟨p1,_,rfl,.inl ⟨SqL.of upd_same,fun p2 hp2=>?_⟩⟩
   have S2:=same_upd (o:=.tup ((cw.take m).map V.str)) hp2
   have hn:=hC.2.2.1.free (S1.free hp2)
   exact hq _ _ (Rst.one ((hC.2.2.1.trans S1).trans S2) hn upd_same trivial (q p2 (cw.take m) hn (fun z hz=>hC.2.2.2.2 z (List.mem_of_mem_take hz)) (by rw [List.length_take];omega)))
theorem pick3 {α:Type} (x y z:α) (a b:Int):∃ v,atI [x,y,z] (a * b % 3)=some v/\(v=x\/v=y\/v=z):=by
 have h0:0<=a * b % 3:=Int.emod_nonneg _ (by decide)
 have h1:a * b % 3 < 3:=Int.emod_lt_of_pos _ (by decide)
 generalize a * b % 3=d at h0 h1
 obtain ⟨j,rfl⟩:∃ j:Nat,d=(j:Int):=⟨d.toNat,by omega⟩
 have hj:j < 3:=by omega
 match j,hj with
 | 0,_=>exact ⟨x,rfl,.inl rfl⟩
 | 1,_=>exact ⟨y,rfl,.inr (.inl rfl)⟩
 | 2,_=>exact ⟨z,rfl,.inr (.inr rfl)⟩
def spPricesBy:Sp:=fun vs H Q _=>∃ c:Int,vs=[.int c]/\Builtin.Int.intBits c<=1048576/\∀ (p:Addr) (pr:List Int),H p=none->pr.length=7->(∀ x ∈ pr,0<=x/\x<=10 ^ 30)->Q (.ref p) (upd H p (.tup (pr.map V.int)))
theorem scPricesBy:FnScope ["cell","found","k","some"] ["cell"] (defScope sPricesBy):=⟨rfl,rfl,rfl,by decide +kernel,rfl,by decide +kernel,by decide +kernel⟩
theorem ok_pricesby {f gD:Addr} {fd dD:FuncData} (F:Fun K "_law_prices_by" "_law_prices_by" sPricesBy f fd) (DD:Dfn K mg "_law_draw" sDraw gD dD ["cell","k","many"]) (mrange:mg "range" = none) (mtup:mg "tuple" = none):FnOk P w K mg base CX0 2 f fd ["cell"] spPricesBy:=by
 have GD:FnOk P w K mg base CX0 1 gD dD ["cell","k","many"] spDraw:=ok_draw DD.fn
 refine Fun.okR F scPricesBy (fun vs H Q E h=>?_) (fun cdv A outer s H vs Q Q2 E hr h hq=>?_)
 ·obtain ⟨c,rfl,_⟩:=h
  rfl
 ·obtain ⟨c,rfl,hb,q⟩:=h
  refine ⟨_,pss_cons (ps_set (i:=1) scPricesBy.nd rfl (Or.inl rfl) (pe_lst pa_nil))
   (pss_cons (ps_for PassesOwn.never rfl (pi_range1 (by rfl) mrange (pa_cons pe_int pa_nil)) (pg_name (i:=2) scPricesBy.nd rfl (Or.inl rfl))
    (pss_cons (ps_set (i:=3) scPricesBy.nd rfl (Or.inl rfl) (pe_lst (pa_cons (pe_call GD hr (by rfl) DD.at_ DD.fn.kp DD.bn .nil pass0 (pa_cons (pv 0) (pa_cons (pe_op op_add pe_int (pv 2)) (pa_cons pe_int pa_nil)))) (pa_cons (pe_call GD hr (by rfl) DD.at_ DD.fn.kp DD.bn .nil pass0 (pa_cons (pv 0) (pa_cons (pe_op op_add pe_int (pv 2)) (pa_cons pe_int pa_nil)))) (pa_cons (pe_call GD hr (by rfl) DD.at_ DD.fn.kp DD.bn .nil pass0 (pa_cons (pv 0) (pa_cons (pe_op op_add pe_int (pv 2)) (pa_cons (pe_op op_add (pe_op op_pow pe_int pe_int) pe_int) pa_nil)))) pa_nil)))))
    (pss_one (ps_expr (pe_bm PySem.F.plainAttrs_list PySem.F.slot_list_append PySem.F.type_list_append mt_append (pv 1) (pa_cons (pe_ix ix_list (pv 3) (pe_op op_mod (pe_op op_mul (pe_call GD hr (by rfl) DD.at_ DD.fn.kp DD.bn .nil pass0 (pa_cons (pv 0) (pa_cons pe_int (pa_cons pe_int pa_nil)))) (pe_call GD hr (by rfl) DD.at_ DD.fn.kp DD.bn .nil pass0 (pa_cons (pv 0) (pa_cons (pe_op op_add pe_int (pv 2)) (pa_cons pe_int pa_nil))))) pe_int) (fun _ _=>rfl)) pa_nil))))))
   (pss_one (ps_ret (pe_callTy call_tuple_of (by rfl) mtup boot_tuple (pa_cons (pv 1) pa_nil))))),?_⟩
  refine ⟨Nat.zero_le _,fun l hl=>?_⟩
  have S0:=same_upd (o:=.lst []) hl
  refine ⟨7,rfl,by decide,by decide,?_⟩
  refine for_range (n:=7) (fun i σ H2=>∃ (pr:List Int) (v2 v3:Option V),σ=[some (.int c),some (.ref l),v2,v3]/\H2 l=some (.lst (pr.map V.int))/\Same H H2/\pr.length=i/\∀ x ∈ pr,0<=x/\x<=10 ^ 30)
   ⟨[],none,none,rfl,upd_same,S0,rfl,fun _ z=>nomatch z⟩ ?_ ?_
  ·rintro i σ H2 hi ⟨pr,v2,v3,rfl,h2,S2,hpl,hP⟩
   have ei:(0:Int)+((i:Nat):Int)=((i:Nat):Int):=by omega
   rw [ei]
   have e30:(10:Int) ^ ((30:Int).toNat)+1=1000000000000000000000000000001:=by decide +kernel
   have x1:=draw_lo c (201+((i:Nat):Int)) (m:=3) (by decide)
   have x2:=draw_hi c (201+((i:Nat):Int)) (m:=3) (by decide)
   have y1:=draw_lo c (211+((i:Nat):Int)) (m:=12) (by decide)
   have y2:=draw_hi c (211+((i:Nat):Int)) (m:=12) (by decide)
   have z1:=draw_lo c (221+((i:Nat):Int)) (m:=(10:Int) ^ ((30:Int).toNat)+1) (by rw [e30];decide)
   have z2:=draw_hi c (221+((i:Nat):Int)) (m:=(10:Int) ^ ((30:Int).toNat)+1) (by rw [e30];decide)
   refine ⟨_,rfl,_,rfl,_,_,rfl,rfl,_,_,_,rfl,hb,(by show (0:Int)<=201+((i:Nat):Int);omega),(by show 201+((i:Nat):Int)<=100000;omega),(by show (0:Int) < 3;decide),_,rfl,_,rfl,_,_,rfl,rfl,_,_,_,rfl,hb,(by show (0:Int)<=211+((i:Nat):Int);omega),(by show 211+((i:Nat):Int)<=100000;omega),(by show (0:Int) < 12;decide),_,rfl,_,rfl,_,_,rfl,rfl,_,_,rfl,rfl,⟨by decide,by decide,by decide⟩,_,_,rfl,rfl,_,_,_,rfl,hb,(by show (0:Int)<=221+((i:Nat):Int);omega),(by show 221+((i:Nat):Int)<=100000;omega),(by show (0:Int) < (10:Int) ^ ((30:Int).toNat)+1;rw [e30];decide),few (by show 3<=_;omega),fun ls hls=>?_⟩
   have z2':drawD c (221+((i:Nat):Int)) ((10:Int) ^ ((30:Int).toNat)+1) < 1000000000000000000000000000001:=by
    have:=z2
    rw [e30] at this ⊢
    exact this
   clear z2
   have hx30:(10:Int) ^ 30=1000000000000000000000000000000:=by decide +kernel
   generalize drawD c (201+((i:Nat):Int)) 3=X at x1 x2
   generalize drawD c (211+((i:Nat):Int)) 12=Y at y1 y2
   generalize drawD c (221+((i:Nat):Int)) ((10:Int) ^ ((30:Int).toNat)+1)=Z at z1 z2'
   have S3:=same_upd (o:=.lst [V.int X,.int Y,.int Z]) hls
   have h3:=S3 _ _ h2
   obtain ⟨v,av,hv⟩:=pick3 (V.int X) (.int Y) (.int Z) (drawD c 231 4) (drawD c (241+((i:Nat):Int)) 2)
   obtain ⟨n,hn,hn0⟩:∃ n:Int,v=.int n/\0<=n/\n<=10 ^ 30:=by
    rw [hx30]
    rcases hv with rfl | rfl | rfl
    ·exact ⟨X,rfl,by omega,by omega⟩
    ·exact ⟨Y,rfl,by omega,by omega⟩
    ·exact ⟨Z,rfl,by omega,by omega⟩
   subst hn
   have w1:=draw_lo c 231 (m:=4) (by decide)
   have w2:=draw_hi c 231 (m:=4) (by decide)
   refine ⟨_,rfl,.inl ⟨rfl,_,SqL.of h3⟩,_,rfl,_,rfl,_,_,_,rfl,hb,(by show (0:Int)<=231;decide),(by show (231:Int)<=100000;decide),(by show (0:Int) < 4;decide),_,rfl,_,rfl,_,_,rfl,rfl,_,_,_,rfl,hb,(by show (0:Int)<=241+((i:Nat):Int);omega),(by show 241+((i:Nat):Int)<=100000;omega),(by show (0:Int) < 2;decide),_,_,rfl,rfl,.inl ⟨by show -(2 ^ 64) < drawD c 231 4;omega,by show drawD c 231 4 < 2 ^ 64;omega⟩,_,_,rfl,rfl,(by show (0:Int) < 3;decide),ls,_,_,_,rfl,rfl,SqL.of upd_same,av,l,_,_,rfl,rfl,h3,(by rw [List.length_map];exact fewer (by omega)),pr++[n],_,_,rfl,by rw [upd_same,List.map_append];rfl,same_to (S2.trans S3) hl,by rw [List.length_append,hpl];rfl,fun x hx=>?_⟩
   rcases List.mem_append.mp hx with hx | hx
   ·exact hP x hx
   ·rw [List.mem_singleton.mp hx];exact hn0
  ·rintro σ H2 ⟨pr,v2,v3,rfl,h2,S2,hpl,hP⟩
   refine ⟨_,rfl,l,_,rfl,.inl ⟨SqL.of h2,fun p hp=>?_⟩⟩
   have S3:=same_upd (o:=.tup (pr.map V.int)) hp
   exact hq _ _ (Rst.one (S2.trans S3) (S2.free hp) upd_same trivial (q p pr (S2.free hp) hpl hP))
theorem iteN' {c A B:Prop} [Decidable c] (h:¬ c) (ha:A):if (!decide c)=true then A else B:=by rw [decide_eq_false h];exact ha
theorem scLAlk:FnScope ["one","two"] ["one","two"] (defScope sLAlk):=⟨rfl,rfl,rfl,by decide +kernel,rfl,by decide +kernel,by decide +kernel⟩
theorem nd_LAlk:(["k","one","two"]:List Str).Nodup:=by decide +kernel
theorem alike_self (l:List Nat):alikeB l l=false:=by
 unfold alikeB placesB
 rw [if_pos rfl]
 have e:(List.range l.length).filter (fun i=>!decide (l[i]?=l[i]?))=[]:=List.filter_eq_nil_iff.mpr fun i _=>by simp
 rw [e]
 decide
theorem ok_lalk {f:Addr} {fd:FuncData} (F:Fun K "_law_alike" "_law_alike" sLAlk f fd) (mlen:mg "len" = none) (mrange:mg "range" = none):FnOk P w K mg base CX0 1 f fd ["one","two"] spAlike:=by
 refine Fun.okR F scLAlk (fun vs H Q E h=>?_) (fun cdv A outer s H vs Q Q2 E hr h hq=>?_)
 ·obtain ⟨a,b,rfl,_⟩:=h
  rfl
 ·obtain ⟨a,b,rfl,ha,hb,q⟩:=h
  refine ⟨_,pss_cons (ps_if (pw_or (pt_cmpR op_eq (pv 0) (pv 1) (nomark _)) (pw_or1 (pt_cmpR op_ne (pe_callB call_len_str (by rfl) mlen PySem.boot_len (pa_cons (pv 0) pa_nil)) (pe_callB call_len_str (by rfl) mlen PySem.boot_len (pa_cons (pv 1) pa_nil)) (nomark _)))).pt (pss_one (ps_ret pe_bl)) pss_nil)
   (pss_one (ps_ret (pe_cmpR op_eq (pe_callB call_len_seq (by rfl) mlen PySem.boot_len (pa_cons (pe_comp (Nc:=["k","one","two"]) (mp:=[none,some 0,some 1]) rfl (CompOk.of (by rfl)) (pi_range1 (by rfl) mrange (pa_cons (pe_callB call_len_str (by rfl) mlen PySem.boot_len (pa_cons (pv 0) pa_nil)) pa_nil))
    (fun cl C s H fp=>⟨pg_name (i:=0) nd_LAlk rfl (Or.inl rfl),pts_one (pt_cmpR op_ne (pe_ix ix_str (pv 1) (pv 0) (fun _ _=>rfl)) (pe_ix ix_str (pv 2) (pv 0) (fun _ _=>rfl)) (nomark _)),pv 0⟩)) pa_nil)) pe_int (nomark _)))),?_⟩
  refine ⟨_,rfl,_,rfl,rfl,_,rfl,?_⟩
  by_cases hab:a=b
  ·subst hab
   rw [alike_self] at q
   exact iteY rfl (iteT (hq _ _ (Rst.same (Same.refl H) q)))
  refine iteK (fun z=>hab (by injection z)) ?_
  refine ⟨_,rfl,a,rfl,ha,_,rfl,b,rfl,hb,rfl,_,rfl,?_⟩
  by_cases hl:a.length=b.length
  ·refine iteNS (by rw [hl]) ?_
   refine ⟨_,rfl,a,rfl,ha,(a.length:Int),rfl,(by omega),(by have:=szl;omega),?_⟩
   rw [Int.toNat_natCast]
   refine comp_pure (as:=List.range a.length) (v:=fun i=>.int (0+(i:Nat))) (fun i=>!decide (a.cps.toList[i]?=b.cps.toList[i]?)) (fun i=>.int (0+(i:Nat))) (src_range 0 a.length H) (by rw [List.length_range];exact ha) (fun i hi k hk=>?_) (fun i hi _ k hk=>?_) (fun D hD=>?_)
   ·have hi':=List.mem_range.mp hi
    have ea:a.cps.toList[i]?=some a.cps.toList[i]:=List.getElem?_eq_getElem (by rw [clen];exact hi')
    have eb:b.cps.toList[i]?=some b.cps.toList[i]:=List.getElem?_eq_getElem (by rw [clen,<-hl];exact hi')
    have ei:(0:Int)+((i:Nat):Int)=((i:Nat):Int):=by omega
    refine ⟨_,rfl,_,rfl,a,_,a.cps.toList[i],rfl,rfl,ha,(by rw [ei];exact atI_nat ea),_,rfl,_,rfl,b,_,b.cps.toList[i],rfl,rfl,hb,(by rw [ei];exact atI_nat eb),rfl,_,rfl,?_⟩
    have e:(!decide (V.str ⟨#[a.cps.toList[i]]⟩=V.str ⟨#[b.cps.toList[i]]⟩))=(!decide (a.cps.toList[i]?=b.cps.toList[i]?)):=by
     rw [ea,eb]
     congr 1
     exact decide_eq_decide.mpr ⟨fun z=>by injection z with z;injection z with z;simpa using z,fun z=>by rw [Option.some.inj z]⟩
    rw [e];exact hk
   ·exact ⟨_,rfl,hk⟩
   ·refine ⟨D,_,rfl,.inl (SqL.of upd_same),rfl,hq _ _ (Rst.same (same_upd hD) ?_)⟩
    rw [List.length_map]
    have e:decide (V.int (((List.range a.length).filter fun i=>!decide (a.cps.toList[i]?=b.cps.toList[i]?)).length:Nat)=V.int 1)=alikeB a.cps.toList b.cps.toList:=by
     unfold alikeB placesB
     rw [if_pos (by rw [clen,clen];exact hl),clen]
     exact decide_eq_decide.mpr ⟨fun z=>by injection z with z;omega,fun z=>by rw [z];rfl⟩
    rw [e];exact q
  ·refine iteN' (fun z=>hl (by injection z with z;omega)) (hq _ _ (Rst.same (Same.refl H) ?_))
   have e:alikeB a.cps.toList b.cps.toList=false:=by
    unfold alikeB
    rw [if_neg (by rw [clen,clen];exact hl)]
   rw [<-e];exact q
def spWB (K:PySem.W.Frag):Sp:=fun vs H Q _=>∃ (p c t:Addr) (es cp:List Str) (d:Nat) (st:Sk),vs=[.ref p,.int ((d:Nat):Int),.ref c,.ref t]/\SqT K H p (es.map V.str)/\SqT K H c (cp.map V.str)/\SqT K H t (stepV st)/\fitsB es d cp.getLast? st=true ∧
 ∀ (H':Hp) (r u:Addr),Same H H'->H' r=some (.tup [.int ((wd st:Nat):Int),.ref u])->H' u=some (.tup ((ww es d cp.getLast? st).map V.str))->Q (.ref r) H'
theorem scWB:FnScope ["elder","done","copy","step"] ["elder","done","copy","step"] (defScope sWB):=⟨rfl,rfl,rfl,by decide +kernel,rfl,by decide +kernel,by decide +kernel⟩
theorem skip_last (m:Nat):atI (stepV (.skip m)) (-1)=some (.int ((m:Nat):Int)):=rfl
theorem lose_last:atI (stepV .lose) (-1)=some (.str (Str.ofString "lose")):=rfl
theorem ok_wb {f:Addr} {fd:FuncData} (F:Fun K "_law_written_by" "_law_written_by" sWB f fd) (mint:mg "int" = none):FnOk P w K mg base CX0 1 f fd ["elder","done","copy","step"] (spWB K):=by
 refine F.ok scWB (fun vs H Q E h=>?_) (fun cdv A outer s H vs Q E hr h=>?_)
 ·obtain ⟨p,c,t,es,cp,d,st,rfl,_⟩:=h
  rfl
 ·obtain ⟨p,c,t,es,cp,d,st,rfl,hp,hc,ht,hf,q⟩:=h
  refine ⟨_,pss_cons (ps_if (pt_cmpR op_eq (pe_ix ix_tup (pv 3) pe_int (fun _ _=>rfl)) pe_str (nomark _)) (pss_one (ps_ret (pe_tup (pa_cons pe_int (pa_cons (pe_tup (pa_cons (pe_ix ix_tup (pv 0) (pv 1) (fun _ _=>rfl)) pa_nil)) pa_nil))))) pss_nil)
   (pss_cons (ps_if (pt_cmpR op_eq (pe_ix ix_tup (pv 3) pe_int (fun _ _=>rfl)) pe_str (nomark _)) (pss_one (ps_ret (pe_tup (pa_cons pe_int (pa_cons (pe_tup (pa_cons (pe_ix ix_tup (pv 0) (pe_op op_add (pv 1) pe_int) (fun _ _=>rfl)) (pa_cons (pe_ix ix_tup (pv 0) (pv 1) (fun _ _=>rfl)) pa_nil))) pa_nil))))) pss_nil)
   (pss_cons (ps_if (pt_cmpR op_eq (pe_ix ix_tup (pv 3) pe_int (fun _ _=>rfl)) pe_str (nomark _)) (pss_one (ps_ret (pe_tup (pa_cons pe_int (pa_cons (pe_tup (pa_cons (pe_ix ix_tup (pv 2) (pe_un un_neg pe_int) (fun _ _=>rfl)) pa_nil)) pa_nil))))) pss_nil)
   (pss_cons (ps_if (pt_cmpR op_eq (pe_ix ix_tup (pv 3) pe_int (fun _ _=>rfl)) pe_str (nomark _)) (pss_one (ps_ret (pe_tup (pa_cons pe_int (pa_cons (pe_tup (pa_cons (pe_ix ix_tup (pv 3) pe_int (fun _ _=>rfl)) pa_nil)) pa_nil))))) pss_nil)
   (pss_cons (ps_if (pt_cmpR op_eq (pe_ix ix_tup (pv 3) pe_int (fun _ _=>rfl)) pe_str (nomark _)) (pss_one (ps_ret (pe_tup (pa_cons pe_int (pa_cons (pe_tup (pa_cons (pe_ix ix_tup (pv 3) pe_int (fun _ _=>rfl)) pa_nil)) pa_nil))))) pss_nil)
   (pss_one (ps_ret (pe_tup (pa_cons (pe_ix ix_list (pe_lst (pa_cons (pe_ix ix_tup (pv 3) (pe_un un_neg pe_int) (fun _ _=>rfl)) (pa_cons pe_int pa_nil))) (pe_callTy call_int1 (by rfl) mint boot_int (pa_cons (pe_cmpR op_eq (pe_ix ix_tup (pv 3) pe_int (fun _ _=>rfl)) pe_str (nomark _)) pa_nil)) (fun _ _=>rfl)) (pa_cons (pe_tup pa_nil) pa_nil))))))))),?_⟩
  have fin:∀ (u r:Addr) (H1:Hp) (xs:List V),Same H H1->H1 u=none->xs=(ww es d cp.getLast? st).map V.str->upd H1 u (.tup xs) r=none->∀ n:Int,n=((wd st:Nat):Int)->Q (.ref r) (upd (upd H1 u (.tup xs)) r (.tup [.int n,.ref u])):=fun u r H1 xs S1 hu ex hr' n en=>by
   subst ex en
   have T1:=same_upd (o:=.tup ((ww es d cp.getLast? st).map V.str)) hu
   have T2:=same_upd (o:=.tup [.int ((wd st:Nat):Int),.ref u]) hr'
   exact q _ r u ((S1.trans T1).trans T2) upd_same (T2 _ _ upd_same)
  have no:∀ {a b:Str},a ≠ b->¬ (V.str a=V.str b):=fun h z=>h (by injection z)
  cases st with
  | keep=>
   have hd:d < es.length:=of_decide_eq_true hf
   refine ⟨_,rfl,t,_,_,_,rfl,rfl,ht,rfl,rfl,_,rfl,iteY rfl ?_⟩
   exact ⟨_,rfl,_,rfl,p,_,_,_,rfl,rfl,hp,at_w hd,few (by show 1<=_;omega),fun u hu=>⟨few (by show 2<=_;omega),fun r hr'=>fin u r H _ (Same.refl H) hu rfl hr' 1 rfl⟩⟩
  | swap=>
   have hd:d+1 < es.length:=of_decide_eq_true (Bool.and_eq_true_iff.mp hf).1
   refine ⟨_,rfl,t,_,_,_,rfl,rfl,ht,rfl,rfl,_,rfl,iteK (no (by decide +kernel)) ?_⟩
   refine ⟨_,rfl,t,_,_,_,rfl,rfl,ht,rfl,rfl,_,rfl,iteY rfl ?_⟩
   have e1:atI (es.map V.str) (((d:Nat):Int)+1)=some (.str (gt es (d+1))):=by
    rw [show ((d:Nat):Int)+1=((d+1:Nat):Int) by omega];exact at_w hd
   exact ⟨_,rfl,_,rfl,_,_,rfl,rfl,p,_,_,_,rfl,rfl,hp,e1,_,rfl,_,rfl,p,_,_,_,rfl,rfl,hp,at_w (by omega),few (by show 2<=_;omega),fun u hu=>⟨few (by show 2<=_;omega),fun r hr'=>fin u r H _ (Same.refl H) hu rfl hr' 2 rfl⟩⟩
  | twice=>
   have hl:0 < cp.length:=by
    cases cp with
    | nil=>cases hf
    | cons z r=>simp
   obtain ⟨z,ez,az⟩:=last_at hl
   refine ⟨_,rfl,t,_,_,_,rfl,rfl,ht,rfl,rfl,_,rfl,iteK (no (by decide +kernel)) ?_⟩
   refine ⟨_,rfl,t,_,_,_,rfl,rfl,ht,rfl,rfl,_,rfl,iteK (no (by decide +kernel)) ?_⟩
   refine ⟨_,rfl,t,_,_,_,rfl,rfl,ht,rfl,rfl,_,rfl,iteY rfl ?_⟩
   exact ⟨_,rfl,_,rfl,c,_,_,_,rfl,rfl,hc,az,few (by show 1<=_;omega),fun u hu=>⟨few (by show 2<=_;omega),fun r hr'=>fin u r H _ (Same.refl H) hu (by rw [ez];rfl) hr' 0 rfl⟩⟩
  | add z=>
   refine ⟨_,rfl,t,_,_,_,rfl,rfl,ht,rfl,rfl,_,rfl,iteK (no (by decide +kernel)) ?_⟩
   refine ⟨_,rfl,t,_,_,_,rfl,rfl,ht,rfl,rfl,_,rfl,iteK (no (by decide +kernel)) ?_⟩
   refine ⟨_,rfl,t,_,_,_,rfl,rfl,ht,rfl,rfl,_,rfl,iteK (no (by decide +kernel)) ?_⟩
   refine ⟨_,rfl,t,_,_,_,rfl,rfl,ht,rfl,rfl,_,rfl,iteY rfl ?_⟩
   exact ⟨_,rfl,t,_,_,_,rfl,rfl,ht,rfl,few (by show 1<=_;omega),fun u hu=>⟨few (by show 2<=_;omega),fun r hr'=>fin u r H _ (Same.refl H) hu rfl hr' 0 rfl⟩⟩
  | turn z=>
   refine ⟨_,rfl,t,_,_,_,rfl,rfl,ht,rfl,rfl,_,rfl,iteK (no (by decide +kernel)) ?_⟩
   refine ⟨_,rfl,t,_,_,_,rfl,rfl,ht,rfl,rfl,_,rfl,iteK (no (by decide +kernel)) ?_⟩
   refine ⟨_,rfl,t,_,_,_,rfl,rfl,ht,rfl,rfl,_,rfl,iteK (no (by decide +kernel)) ?_⟩
   refine ⟨_,rfl,t,_,_,_,rfl,rfl,ht,rfl,rfl,_,rfl,iteK (no (by decide +kernel)) ?_⟩
   refine ⟨_,rfl,t,_,_,_,rfl,rfl,ht,rfl,rfl,_,rfl,iteY rfl ?_⟩
   exact ⟨_,rfl,t,_,_,_,rfl,rfl,ht,rfl,few (by show 1<=_;omega),fun u hu=>⟨few (by show 2<=_;omega),fun r hr'=>fin u r H _ (Same.refl H) hu rfl hr' 1 rfl⟩⟩
  | lose=>
   refine ⟨_,rfl,t,_,_,_,rfl,rfl,ht,rfl,rfl,_,rfl,iteK (no (by decide +kernel)) ?_⟩
   refine ⟨_,rfl,t,_,_,_,rfl,rfl,ht,rfl,rfl,_,rfl,iteK (no (by decide +kernel)) ?_⟩
   refine ⟨_,rfl,t,_,_,_,rfl,rfl,ht,rfl,rfl,_,rfl,iteK (no (by decide +kernel)) ?_⟩
   refine ⟨_,rfl,t,_,_,_,rfl,rfl,ht,rfl,rfl,_,rfl,iteK (no (by decide +kernel)) ?_⟩
   refine ⟨_,rfl,t,_,_,_,rfl,rfl,ht,rfl,rfl,_,rfl,iteK (no (by decide +kernel)) ?_⟩
   refine ⟨_,rfl,_,rfl,t,_,_,_,rfl,rfl,ht,lose_last,few (by show 2<=_;omega),fun ll hll=>?_⟩
   have S1:=same_upd (o:=.lst [V.str (Str.ofString "lose"),.int 1]) hll
   exact ⟨_,rfl,t,_,_,_,rfl,rfl,sameT S1 ht,rfl,rfl,.inr ⟨_,rfl,ll,_,_,_,rfl,rfl,SqL.of upd_same,rfl,Nat.zero_le _,fun u hu=>⟨few (by show 2<=_;omega),fun r hr'=>fin u r _ _ S1 hu rfl hr' 1 rfl⟩⟩⟩
  | skip m=>
   refine ⟨_,rfl,t,_,_,_,rfl,rfl,ht,rfl,rfl,_,rfl,iteK (no (by decide +kernel)) ?_⟩
   refine ⟨_,rfl,t,_,_,_,rfl,rfl,ht,rfl,rfl,_,rfl,iteK (no (by decide +kernel)) ?_⟩
   refine ⟨_,rfl,t,_,_,_,rfl,rfl,ht,rfl,rfl,_,rfl,iteK (no (by decide +kernel)) ?_⟩
   refine ⟨_,rfl,t,_,_,_,rfl,rfl,ht,rfl,rfl,_,rfl,iteK (no (by decide +kernel)) ?_⟩
   refine ⟨_,rfl,t,_,_,_,rfl,rfl,ht,rfl,rfl,_,rfl,iteK (no (by decide +kernel)) ?_⟩
   refine ⟨_,rfl,_,rfl,t,_,_,_,rfl,rfl,ht,skip_last m,few (by show 2<=_;omega),fun ll hll=>?_⟩
   have S1:=same_upd (o:=.lst [V.int ((m:Nat):Int),.int 1]) hll
   exact ⟨_,rfl,t,_,_,_,rfl,rfl,sameT S1 ht,rfl,rfl,.inr ⟨_,rfl,ll,_,_,_,rfl,rfl,SqL.of upd_same,rfl,Nat.zero_le _,fun u hu=>⟨few (by show 2<=_;omega),fun r hr'=>fin u r _ _ S1 hu rfl hr' _ rfl⟩⟩⟩
def kinds7:List Str:=[Str.ofString "like",Str.ofString "turn",Str.ofString "lose",Str.ofString "add",Str.ofString "twice",Str.ofString "swap",Str.ofString "skip"]
theorem scPO:FnScope ["elder","done","step","prices","names"] ["elder","done","step","prices"] (defScope sPO):=⟨rfl,rfl,rfl,by decide +kernel,rfl,by decide +kernel,by decide +kernel⟩
theorem ok_po {f gL:Addr} {fd dL:FuncData} (F:Fun K "_law_price_of" "_law_price_of" sPO f fd) (DL:Dfn K mg "_law_alike" sLAlk gL dL ["one","two"]) (GL:FnOk P w K mg base CX0 1 gL dL ["one","two"] spAlike) (mint:mg "int" = none):FnOk P w K mg base CX0 2 f fd ["elder","done","step","prices"] (spPrice K):=by
 refine Fun.okR F scPO (fun vs H Q E h=>?_) (fun cdv A outer s H vs Q Q2 E hr h hq=>?_)
 ·obtain ⟨p,t,q,es,d,st,pr,rfl,_⟩:=h
  rfl
 ·obtain ⟨p,t,r,es,d,st,pr,rfl,hp,hg,ht,hok,hto,hpr,hl7,q⟩:=h
  refine ⟨_,pss_cons (ps_if (pt_cmpR op_eq (pe_ix ix_tup (pv 2) pe_int (fun _ _=>rfl)) pe_str (nomark _))
    (pss_one (ps_ret (pe_ix ix_tup (pv 3) (pe_op op_sub pe_int (pe_callTy call_int1 (by rfl) mint boot_int (pa_cons (pe_call GL hr (by rfl) DL.at_ DL.fn.kp DL.bn .nil pass0 (pa_cons (pe_ix ix_tup (pv 0) (pv 1) (fun _ _=>rfl)) (pa_cons (pe_ix ix_tup (pv 2) pe_int (fun _ _=>rfl)) pa_nil))) pa_nil))) (fun _ _=>rfl)))) pss_nil)
   (pss_cons (ps_set (i:=4) scPO.nd rfl (Or.inl rfl) (pe_lst (pa_cons pe_str (pa_cons pe_str (pa_cons pe_str (pa_cons pe_str (pa_cons pe_str (pa_cons pe_str (pa_cons pe_str pa_nil)))))))))
   (pss_cons (ps_if (pt_cmpR op_eq (pe_ix ix_tup (pv 2) pe_int (fun _ _=>rfl)) pe_str (nomark _)) (pss_one (ps_ret pe_int)) pss_nil)
   (pss_one (ps_ret (pe_ix ix_tup (pv 3) (pe_bm PySem.F.plainAttrs_list PySem.F.slot_list_index PySem.F.type_list_index mt_indexL (pv 4) (pa_cons (pe_ix ix_tup (pv 2) pe_int (fun _ _=>rfl)) pa_nil)) (fun _ _=>rfl)))))),?_⟩
  have go:∀ i H',Same H H'->price es d pr st=i->Q2 (.int i) H':=fun i H' S e=>hq _ _ (Rst.same S (by rw [<-e];exact q))
  by_cases htn:∃ z,st=.turn z
  ·obtain ⟨z,rfl⟩:=htn
   have hd:d < es.length:=hto
   refine ⟨_,rfl,t,_,_,_,rfl,rfl,ht,rfl,rfl,_,rfl,iteY rfl ?_⟩
   refine ⟨_,rfl,_,rfl,_,rfl,p,_,_,_,rfl,rfl,hp,at_w hd,_,rfl,t,_,_,_,rfl,rfl,ht,rfl,_,_,rfl,(hg _ (gt_mem hd)).small,Good.small hok,.inr ⟨_,rfl,_,_,rfl,rfl,?_⟩⟩
   cases hb:alikeB (gt es d).cps.toList z.cps.toList with
   | true=>exact ⟨r,_,_,_,rfl,rfl,hpr,at_p (i:=0) (by omega),go _ _ (Same.refl H) (by show (if alikeB (gt es d).cps.toList z.cps.toList=true then _ else _)=_;rw [hb];rfl)⟩
   | false=>exact ⟨r,_,_,_,rfl,rfl,hpr,at_p (i:=1) (by omega),go _ _ (Same.refl H) (by show (if alikeB (gt es d).cps.toList z.cps.toList=true then _ else _)=_;rw [hb];rfl)⟩
  have key:∃ (z:Str) (rest:List V),stepV st=V.str z :: rest/\V.str z ≠ V.str (Str.ofString "turn")/\(st=.keep\/(V.str z ≠ V.str (Str.ofString "keep")/\∃ j:Nat,kinds7[j]?=some z/\(∀ m,m < j->kinds7[m]? ≠ some z)/\j < 7/\price es d pr st=gI pr j)):=by
   cases st with
   | keep=>exact ⟨_,_,rfl,by decide +kernel,.inl rfl⟩
   | lose=>exact ⟨_,_,rfl,by decide +kernel,.inr ⟨by decide +kernel,2,rfl,by decide +kernel,by decide,rfl⟩⟩
   | add z=>exact ⟨_,_,rfl,by decide +kernel,.inr ⟨by decide +kernel,3,rfl,by decide +kernel,by decide,rfl⟩⟩
   | twice=>exact ⟨_,_,rfl,by decide +kernel,.inr ⟨by decide +kernel,4,rfl,by decide +kernel,by decide,rfl⟩⟩
   | swap=>exact ⟨_,_,rfl,by decide +kernel,.inr ⟨by decide +kernel,5,rfl,by decide +kernel,by decide,rfl⟩⟩
   | skip m=>exact ⟨_,_,rfl,by decide +kernel,.inr ⟨by decide +kernel,6,rfl,by decide +kernel,by decide,rfl⟩⟩
   | turn z=>exact absurd ⟨z,rfl⟩ htn
  obtain ⟨z,rest,e1,e2,e3⟩:=key
  have a0:atI (stepV st) 0=some (.str z):=atI_nat (j:=0) (by rw [e1];rfl)
  refine ⟨_,rfl,t,_,_,_,rfl,rfl,ht,a0,rfl,_,rfl,iteK e2 ?_⟩
  refine ⟨few (by show 7<=_;omega),fun l2 hl2=>?_⟩
  have S2:=same_upd (o:=.lst (kinds7.map V.str)) hl2
  have ht2:=sameT S2 ht
  refine ⟨_,rfl,t,_,_,_,rfl,rfl,ht2,a0,rfl,_,rfl,?_⟩
  rcases e3 with rfl | ⟨e3,j,e4,e5,e6,e7⟩
  ·have ez:z=Str.ofString "keep" := by
    injection e1 with e1 _
    injection e1 with e1
    exact e1.symm
   exact iteY (by rw [ez]) (go _ _ S2 rfl)
  ·refine iteK e3 ?_
   exact ⟨_,rfl,_,rfl,.inl ⟨rfl,_,SqL.of upd_same⟩,_,rfl,t,_,_,_,rfl,rfl,ht2,a0,l2,kinds7,z,j,rfl,rfl,upd_same,e4,e5,(by show 7<=1000;omega),r,_,_,_,rfl,rfl,sameT S2 hpr,at_p (i:=j) (by omega),go _ _ S2 e7⟩
def spLWk (K:PySem.W.Frag):Sp:=fun vs H Q _=>∃ (p q r:Addr) (es:List Str) (ts:List Addr) (sts:List Sk) (pr:List Int) (d:Nat) (cp:List Str) (pl:List Nat),vs=[.ref p,.ref q,.ref r]/\SqT K H p (es.map V.str)/\(∀ z ∈ es,Good z)/\SqT K H q (ts.map V.ref)/\StepsAt K H ts sts/\sts.length<=1000/\SqT K H r (pr.map V.int)/\pr.length=7/\walk es sts (0,[],[])=some (d,cp,pl)/\cp.length<=1000 ∧
 ∀ (H':Hp) (t c:Addr),Same H H'->H' t=some (.tup [.int ((d:Nat):Int),.ref c,.int (cost es pr pl sts)])->SqT K H' c (cp.map V.str)->Q (.ref t) H'
theorem scLWk:FnScope ["elder","steps","prices","done","copy","price","step","came"] ["elder","steps","prices"] (defScope sLWk):=⟨rfl,rfl,rfl,by decide +kernel,rfl,by decide +kernel,by decide +kernel⟩
theorem walk_places_len {es:List Str}:∀ (sts:List Sk) (x y:WS),walk es sts x=some y->y.2.2.length=x.2.2.length+sts.length/\x.2.1.length<=y.2.1.length
 | [],x,y,h=>by cases h;exact ⟨rfl,Nat.le_refl _⟩
 | st :: r,x,y,h=>by
  have h:(walk1 es x st).bind (walk es r)=some y:=h
  cases hw:walk1 es x st with
  | none=>rw [hw] at h;cases h
  | some z=>
   rw [hw,Option.bind_some] at h
   obtain ⟨i1,i2⟩:=walk_places_len r z y h
   unfold walk1 at hw
   cases ha:after es x.1 x.2.1.getLast? st with
   | none=>rw [ha] at hw;cases hw
   | some u=>
    rw [ha] at hw
    cases hw
    refine ⟨?_,?_⟩
    ·rw [i1,List.length_append,List.length_cons,List.length_cons,List.length_nil]
     omega
    ·exact Nat.le_trans (by rw [List.length_append];omega) i2
theorem ok_lwk {f gB gP:Addr} {fd dB dP:FuncData} (F:Fun K "_law_walked" "_law_walked" sLWk f fd) (DB:Dfn K mg "_law_written_by" sWB gB dB ["elder","done","copy","step"]) (DP:Dfn K mg "_law_price_of" sPO gP dP ["elder","done","step","prices"]) (GP:FnOk P w K mg base CX0 2 gP dP ["elder","done","step","prices"] (spPrice K)) (mint:mg "int" = none):FnOk P w K mg base CX0 3 f fd ["elder","steps","prices"] (spLWk K):=by
 have GB:FnOk P w K mg base CX0 2 gB dB ["elder","done","copy","step"] (spWB K):=(ok_wb DB.fn mint).mono (by decide)
 refine F.ok scLWk (fun vs H Q E h=>?_) (fun cdv A outer s H vs Q E hr h=>?_)
 ·obtain ⟨p,q,r,es,ts,sts,pr,d,cp,pl,rfl,_⟩:=h
  rfl
 ·obtain ⟨p,q0,r0,es,ts,sts,pr,d,cp,pl,rfl,hp,hg,hq0,hst,hsl,hpr,h7,hw,hcl,q⟩:=h
  refine ⟨_,pss_cons (ps_set (i:=3) scLWk.nd rfl (Or.inl rfl) pe_int)
   (pss_cons (ps_set (i:=4) scLWk.nd rfl (Or.inl rfl) (pe_tup pa_nil))
   (pss_cons (ps_set (i:=5) scLWk.nd rfl (Or.inl rfl) pe_int)
   (pss_cons (ps_for PassesOwn.never rfl (pi_tup (pv 1)) (pg_name (i:=6) scLWk.nd rfl (Or.inl rfl))
    (pss_cons (ps_set (i:=5) scLWk.nd rfl (Or.inl rfl) (pe_op op_add (pv 5) (pe_call GP hr (by rfl) DP.at_ DP.fn.kp DP.bn .nil pass0 (pa_cons (pv 0) (pa_cons (pv 3) (pa_cons (pv 6) (pa_cons (pv 2) pa_nil)))))))
    (pss_cons (ps_set (i:=7) scLWk.nd rfl (Or.inl rfl) (pe_call GB hr (by rfl) DB.at_ DB.fn.kp DB.bn .nil pass0 (pa_cons (pv 0) (pa_cons (pv 3) (pa_cons (pv 4) (pa_cons (pv 6) pa_nil))))))
    (pss_cons (ps_set (i:=3) scLWk.nd rfl (Or.inl rfl) (pe_op op_add (pv 3) (pe_ix ix_tup (pv 7) pe_int (fun _ _=>rfl))))
    (pss_one (ps_set (i:=4) scLWk.nd rfl (Or.inl rfl) (pe_op op_catA (pv 4) (pe_ix ix_tup (pv 7) pe_int (fun _ _=>rfl)))))))))
   (pss_one (ps_ret (pe_tup (pa_cons (pv 3) (pa_cons (pv 4) (pa_cons (pv 5) pa_nil)))))))))  ,?_⟩
  refine ⟨Nat.zero_le _,fun c0 hc0=>?_⟩
  have S0:=same_upd (o:=.tup []) hc0
  refine ⟨_,rfl,q0,rfl,⟨_,sameT S0 hq0⟩,for_tup (K:=K) (a:=q0) (xs:=ts.map V.ref) (fun k σ H2=>∃ (dk:Nat) (ck:List Str) (pk:List Nat) (c:Addr) (v6 v7:Option V),σ=[some (.ref p),some (.ref q0),some (.ref r0),some (.int ((dk:Nat):Int)),some (.ref c),some (.int (cost es pr pk (sts.take k))),v6,v7]/\SqT K H2 c (ck.map V.str)/\Same H H2/\walk es (sts.take k) (0,[],[])=some (dk,ck,pk))
   ⟨0,[],[],c0,none,none,rfl,SqT.of upd_same,S0,rfl⟩ (fun k σ H2 _ ⟨_,_,_,_,_,_,_,_,S,_⟩=>sameT S hq0) ?_ ?_⟩
  ·rintro k y σ H2 hk ⟨dk,ck,pk,c,v6,v7,rfl,hc,S2,hwk⟩
   obtain ⟨t,htk,rfl⟩:=ref_at hk
   have hkl:k < sts.length:=by rw [<-hst.len];exact (List.getElem?_eq_some_iff.mp htk).1
   have hsi:=List.getElem?_eq_getElem hkl
   obtain ⟨hT,hO⟩:=hst.item k t _ htk hsi
   obtain ⟨d',wsn,ha,hw'⟩:=walk_at hw hsi hwk
   have hto:=after_turn ha
   have hplk:=(walk_places_len _ _ _ hwk).1
   have hcc:(ck++wsn).length<=1000:=by
    have e:sts=sts.take (k+1)++sts.drop (k+1):=(List.take_append_drop _ _).symm
    rw [e,walk_append,hw',Option.bind_some] at hw
    have:=(walk_places_len _ _ _ hw).2
    exact Nat.le_trans this hcl
   have htake:sts.take (k+1)=sts.take k++[sts[k]]:=List.take_succ_eq_append_getElem hkl
   generalize sts[k]=st at *
   have hcost:cost es pr (pk++[dk]) (sts.take (k+1))=cost es pr pk (sts.take k)+price es dk pr st:=by
    rw [htake]
    exact cost_snoc (by rw [hplk];show 0+_=_;omega)
   have hf:fitsB es dk ck.getLast? st=true/\d'=dk+wd st/\wsn=ww es dk ck.getLast? st:=by
    unfold after at ha
    split at ha
    ·rename_i h
     cases ha
     exact ⟨h,rfl,rfl⟩
    ·cases ha
   obtain ⟨hf,rfl,rfl⟩:=hf
   refine ⟨_,rfl,_,rfl,_,rfl,_,rfl,_,rfl,p,t,r0,es,dk,st,pr,rfl,sameT S2 hp,hg,sameT S2 hT,hO,hto,sameT S2 hpr,h7,_,_,rfl,rfl,?_⟩
   refine ⟨_,rfl,_,rfl,_,rfl,_,rfl,p,c,t,es,ck,dk,st,rfl,sameT S2 hp,hc,sameT S2 hT,hf,fun H3 r u S3 hr3 hu3=>?_⟩
   refine ⟨_,rfl,_,rfl,r,_,_,_,rfl,rfl,SqT.of hr3,rfl,_,_,rfl,rfl,?_⟩
   refine ⟨_,rfl,_,rfl,r,_,_,_,rfl,rfl,SqT.of hr3,rfl,c,u,_,_,rfl,rfl,sameT S3 hc,SqT.of hu3,(by rw [List.length_map,List.length_map,<-List.length_append];exact few (by omega)),fun r4 H4 S4 hr4=>?_⟩
   refine ⟨dk+wd st,ck++ww es dk ck.getLast? st,pk++[dk],r4,some (.ref t),some (.ref r),?_,by rw [List.map_append];exact hr4,(S2.trans S3).trans S4,hw'⟩
   rw [hcost,Int.natCast_add]
   rfl
  ·rintro σ H2 ⟨dk,ck,pk,c,v6,v7,rfl,hc,S2,hwk⟩
   rw [List.length_map,hst.len,List.take_length] at hwk ⊢
   rw [hw] at hwk
   cases hwk
   refine ⟨_,rfl,_,rfl,_,rfl,few (by show 3<=_;omega),fun t ht=>?_⟩
   have S3:=same_upd (o:=.tup [.int ((d:Nat):Int),.ref c,.int (cost es pr pl sts)]) ht
   exact q _ t c (S2.trans S3) upd_same (sameT S3 hc)
def spLs (K:PySem.W.Frag):Sp:=fun vs H Q _=>∃ (p q r:Addr) (es cs:List Str) (pr:List Int),vs=[.ref p,.ref q,.ref r]/\SqT K H p (es.map V.str)/\SqT K H q (cs.map V.str)/\SqT K H r (pr.map V.int)/\(∀ z ∈ es,Good z)/\(∀ z ∈ cs,Good z)/\es.length<=100/\cs.length<=100/\pr.length=7 ∧
 ∀ (H':Hp) (x t tt:Addr) (ts:List Addr) (sts:List Sk) (R:Nat->Nat->Int),Same H H'->H' x=some (.tup [.int (R 0 0),.ref t,.ref tt])->H' t=some (.tup (ts.map V.ref))->TupsAt H' ts sts->Rest (fun i st=>price es i pr st) es.length cs.length (ways es cs) R->Told es cs pr R 0 0 sts->sts.length<=es.length+cs.length->Q (.ref x) H'
theorem scLs:FnScope ["elder","copy","prices","table"] ["elder","copy","prices"] (defScope sLs):=⟨rfl,rfl,rfl,by decide +kernel,rfl,by decide +kernel,by decide +kernel⟩
theorem ok_ls {f gT gF:Addr} {fd dT dF:FuncData} (F:Fun K "least_slips" "least_slips" sLs f fd) (DT:Dfn K mg "price_table" sPtab gT dT ["elder","copy","prices"]) (GT:FnOk P w K mg base CX0 4 gT dT ["elder","copy","prices"] (spPtab K)) (DF:Dfn K mg "first_cheapest" sFC gF dF ["elder","copy","prices"]) (GF:FnOk P w K mg base CX0 4 gF dF ["elder","copy","prices"] (spFC K)):FnOk P w K mg base CX0 5 f fd ["elder","copy","prices"] (spLs K):=by
 refine F.ok scLs (fun vs H Q E h=>?_) (fun cdv A outer s H vs Q E hr h=>?_)
 ·obtain ⟨p,q,r,es,cs,pr,rfl,_⟩:=h
  rfl
 ·obtain ⟨p,q0,r0,es,cs,pr,rfl,hp,hc,hpr,hge,hgc,hel,hcl,h7,q⟩:=h
  refine ⟨_,pss_cons (ps_set (i:=3) scLs.nd rfl (Or.inl rfl) (pe_call GT hr (by rfl) DT.at_ DT.fn.kp DT.bn .nil pass0 (pa_cons (pv 0) (pa_cons (pv 1) (pa_cons (pv 2) pa_nil)))))
   (pss_one (ps_ret (pe_tup (pa_cons (pe_ix ix_tup (pe_ix ix_tup (pv 3) (pe_un un_neg pe_int) (fun _ _=>rfl)) (pe_un un_neg pe_int) (fun _ _=>rfl)) (pa_cons (pe_call GF hr (by rfl) DF.at_ DF.fn.kp DF.bn .nil pass0 (pa_cons (pv 0) (pa_cons (pv 1) (pa_cons (pv 2) pa_nil)))) (pa_cons (pv 3) pa_nil)))))),?_⟩
  refine ⟨_,rfl,_,rfl,_,rfl,p,q0,r0,es,cs,pr,rfl,hp,hc,hpr,hge,hgc,by omega,by omega,h7,fun H1 tt ps G S1 ht htl hrow hG=>?_⟩
  have hM:NumsAt H1 tt ps es.length cs.length G:=⟨ht,htl,hrow⟩
  obtain ⟨z1,az1,hz1,az2⟩:=nums_last hM
  refine ⟨_,rfl,_,rfl,tt,_,_,_,rfl,rfl,SqT.of hM.top,az1,_,rfl,z1,_,_,_,rfl,rfl,SqT.of hz1,az2,_,rfl,_,rfl,_,rfl,p,q0,r0,es,cs,pr,rfl,sameT S1 hp,sameT S1 hc,sameT S1 hpr,hge,hgc,hel,hcl,h7,fun H2 t ts sts R S2 ht2 hT hR hto hsl=>?_⟩
  obtain ⟨rl1,_⟩:=rest_least (ways_fwd es cs) hG hR
  refine ⟨_,rfl,few (by show 3<=_;omega),fun x hx=>?_⟩
  have S3:=same_upd (o:=.tup [.int (G es.length cs.length),.ref t,.ref tt]) hx
  exact q _ x t tt ts sts R ((S1.trans S2).trans S3) (by rw [upd_same,rl1]) (S3 _ _ ht2) (hT.mono S3) hR hto hsl
theorem sameV_steps {H:Hp} {p r:Addr} {ts us:List Addr} {sts:List Sk} (hp:H p=some (.tup (ts.map V.ref))) (hr:H r=some (.tup (us.map V.ref))) (hT:TupsAt H ts sts) (hU:TupsAt H us sts) (hn:sts.length<=100000):SameV H 2 (.ref p) (.ref r):=by
 show _\/_
 refine .inr ⟨p,r,_,_,rfl,rfl,hp,hr,by rw [List.length_map,List.length_map,hT.len,hU.len],by rw [List.length_map,hU.len];exact hn,fun i a b ha hb=>?_⟩
 obtain ⟨t,hti,rfl⟩:=ref_at ha
 obtain ⟨u,hui,rfl⟩:=ref_at hb
 have hi:i < sts.length:=by rw [<-hT.len];exact (List.getElem?_eq_some_iff.mp hti).1
 have es:=List.getElem?_eq_getElem hi
 show _\/_
 refine .inr ⟨t,u,_,_,rfl,rfl,(hT.item i t _ hti es).1,(hU.item i u _ hui es).1,rfl,by cases sts[i] <;> (show _<=100000;simp [stepV]),fun j a b ha hb=>?_⟩
 rw [ha] at hb
 cases hb
 have hm:=List.mem_of_getElem? ha
 have key:(∃ z,a=.str z)\/∃ n:Int,a=.int n:=by
  revert hm
  cases sts[i] with
  | skip m=>
   intro hm
   rcases List.mem_cons.mp hm with e | hm
   ·exact .inl ⟨_,e⟩
   ·exact .inr ⟨_,List.mem_singleton.mp hm⟩
  | turn z=>
   intro hm
   rcases List.mem_cons.mp hm with e | hm
   ·exact .inl ⟨_,e⟩
   ·exact .inl ⟨_,List.mem_singleton.mp hm⟩
  | add z=>
   intro hm
   rcases List.mem_cons.mp hm with e | hm
   ·exact .inl ⟨_,e⟩
   ·exact .inl ⟨_,List.mem_singleton.mp hm⟩
  | keep=>exact fun hm=>.inl ⟨_,List.mem_singleton.mp hm⟩
  | lose=>exact fun hm=>.inl ⟨_,List.mem_singleton.mp hm⟩
  | twice=>exact fun hm=>.inl ⟨_,List.mem_singleton.mp hm⟩
  | swap=>exact fun hm=>.inl ⟨_,List.mem_singleton.mp hm⟩
 show _\/_
 rcases key with ⟨z,rfl⟩ | ⟨n,rfl⟩
 ·exact .inl ⟨z,rfl,rfl⟩
 ·exact .inr (.inl ⟨n,rfl,rfl⟩)
theorem sameV_int {H:Hp} (n:Int):SameV H 2 (.int n) (.int n):=.inl (.inl (.inr (.inl ⟨n,rfl,rfl⟩)))
theorem sameV_strs {H:Hp} {p r:Addr} {cs:List Str} (hp:H p=some (.tup (cs.map V.str))) (hr:H r=some (.tup (cs.map V.str))) (hn:cs.length<=100000):SameV H 2 (.ref p) (.ref r):=by
 refine .inl (.inr ⟨p,r,_,_,rfl,rfl,hp,hr,rfl,by rw [List.length_map];exact hn,fun i a b ha hb=>?_⟩)
 rw [ha] at hb
 cases hb
 obtain ⟨z,_,rfl⟩:=List.mem_map.mp (List.mem_of_getElem? ha)
 exact .inl ⟨z,rfl,rfl⟩
def spRight (K:PySem.W.Frag):Sp:=fun vs H Q _=>∃ (p q r:Addr) (es cs:List Str) (pr:List Int),vs=[.ref p,.ref q,.ref r]/\H p=some (.tup (es.map V.str))/\H q=some (.tup (cs.map V.str))/\SqT K H r (pr.map V.int)/\(∀ z ∈ es,Good z)/\(∀ z ∈ cs,Good z)/\es.length<=40/\cs.length<=40/\pr.length=7/\∀ H',Same H H'->Q (.bl true) H'
theorem scRight:FnScope ["elder","copy","prices","found","line"] ["elder","copy","prices"] (defScope sRight):=⟨rfl,rfl,rfl,by decide +kernel,rfl,by decide +kernel,by decide +kernel⟩
theorem cut_pair (a b c:V):cutV [a,b,c] none (some 2)=[a,b]:=rfl
theorem text_len {sts:List Sk} (h:∀ st ∈ sts,ok80 st) (hn:sts.length<=80):(textS sts).length<=9000:=text_len10 (fun st hs=>(h st hs).1) hn
theorem ok_right {f gLs gWr gRd gSm gWk gCp gCo C:Addr} {fd dLs dWr dRd dSm dWk dCp dCo:FuncData} (F:Fun K "_law_right" "_law_right" sRight f fd)
  (DLs:Dfn K mg "least_slips" sLs gLs dLs ["elder","copy","prices"]) (GLs:FnOk P w K mg base CX0 7 gLs dLs ["elder","copy","prices"] (spLs K)) (DWr:Dfn K mg "slips_written" sWrt gWr dWr ["steps"]) (GWr:FnOk P w K mg base CX0 7 gWr dWr ["steps"] (spWrt K)) (DRd:Dfn K mg "slips_read" sRd gRd dRd ["text"]) (GRd:FnOk P w K mg base (CXv P w) 7 gRd dRd ["text"] (spRd C))
  (DSm:Dfn K mg "_law_same" sSame gSm dSm ["found","due"]) (GSm:FnOk P w K mg base CX0 7 gSm dSm ["found","due"] (spSame 2)) (DWk:Dfn K mg "_law_walked" sLWk gWk dWk ["elder","steps","prices"]) (GWk:FnOk P w K mg base CX0 7 gWk dWk ["elder","steps","prices"] (spLWk K)) (DCp:Dfn K mg "copy_made" sCopy gCp dCp ["elder","steps"]) (GCp:FnOk P w K mg base (CXv P w) 7 gCp dCp ["elder","steps"] (spCopy K C)) (DCo:Dfn K mg "slips_price" sCost gCo dCo ["elder","steps","prices"]) (GCo:FnOk P w K mg base (CXv P w) 7 gCo dCo ["elder","steps","prices"] (spCost K C))
  (misi:mg "isinstance" = none) (mtup:mg "tuple" = none) (mstr:mg "str" = none) (mlen:mg "len" = none):FnOk P w K mg base CX0 8 f fd ["elder","copy","prices"] (spRight K):=by
 refine F.ok scRight (fun vs H Q E h=>?_) (fun cdv A outer s H vs Q E hr h=>?_)
 ·obtain ⟨p,q,r,es,cs,pr,rfl,_⟩:=h
  rfl
 ·obtain ⟨p,q0,r0,es,cs,pr,rfl,hp,hc,hpr,hge,hgc,hel,hcl,h7,q⟩:=h
  refine ⟨_,pss_cons (ps_set (i:=3) scRight.nd rfl (Or.inl rfl) (pe_call GLs hr (by rfl) DLs.at_ DLs.fn.kp DLs.bn .nil pass0 (pa_cons (pv 0) (pa_cons (pv 1) (pa_cons (pv 2) pa_nil)))))
   (pss_cons (ps_if (pw_or (pt_not (pt_val (pe_callB call_isi (by rfl) misi boot_isinstance (pa_cons (pv 3) (pa_cons (pe_bltn (v:=.ty "tuple") (by rfl) mtup boot_tuple rfl) pa_nil))))) (pw_or (pt_cmpR op_ne (pe_callB call_len_seq (by rfl) mlen PySem.boot_len (pa_cons (pv 3) pa_nil)) pe_int (nomark _)) (pw_or1 (pt_not (pt_val (pe_callB call_isi (by rfl) misi boot_isinstance (pa_cons (pe_ix ix_tup (pv 3) pe_int (fun _ _=>rfl)) (pa_cons (pe_bltn (v:=.ty "tuple") (by rfl) mtup boot_tuple rfl) pa_nil)))))))).pt (pss_one (ps_ret pe_bl)) pss_nil)
   (pss_cons (ps_set (i:=4) scRight.nd rfl (Or.inl rfl) (pe_call GWr hr (by rfl) DWr.at_ DWr.fn.kp DWr.bn .nil pass0 (pa_cons (pe_ix ix_tup (pv 3) pe_int (fun _ _=>rfl)) pa_nil)))
   (pss_cons (ps_if (pw_or (pt_not (pt_val (pe_callB call_isi (by rfl) misi boot_isinstance (pa_cons (pv 4) (pa_cons (pe_bltn (v:=.ty "str") (by rfl) mstr boot_str rfl) pa_nil))))) (pw_or1 (pt_not (pt_val (pe_call GSm hr (by rfl) DSm.at_ DSm.fn.kp DSm.bn .nil pass0 (pa_cons (pe_call GRd hr (by rfl) DRd.at_ DRd.fn.kp DRd.bn .nil passE (pa_cons (pv 4) pa_nil)) (pa_cons (pe_ix ix_tup (pv 3) pe_int (fun _ _=>rfl)) pa_nil))))))).pt (pss_one (ps_ret pe_bl)) pss_nil)
   (pss_cons (ps_if (pt_not (pt_val (pe_call GSm hr (by rfl) DSm.at_ DSm.fn.kp DSm.bn .nil pass0 (pa_cons (pe_ix ix_tup (pv 3) pe_int (fun _ _=>rfl)) (pa_cons (pe_ix ix_tup (pe_call GWk hr (by rfl) DWk.at_ DWk.fn.kp DWk.bn .nil pass0 (pa_cons (pv 0) (pa_cons (pe_ix ix_tup (pv 3) pe_int (fun _ _=>rfl)) (pa_cons (pv 2) pa_nil)))) pe_int (fun _ _=>rfl)) pa_nil))))) (pss_one (ps_ret pe_bl)) pss_nil)
   (pss_cons (ps_if (pt_cmpR (op_neS hr.units) (pe_slice sl_tupA (pe_call GWk hr (by rfl) DWk.at_ DWk.fn.kp DWk.bn .nil pass0 (pa_cons (pv 0) (pa_cons (pe_ix ix_tup (pv 3) pe_int (fun _ _=>rfl)) (pa_cons (pv 2) pa_nil)))) po_none (po_some pe_int)) (pe_tup (pa_cons (pe_callB call_len_seq (by rfl) mlen PySem.boot_len (pa_cons (pv 0) pa_nil)) (pa_cons (pv 1) pa_nil))) (nomark _)) (pss_one (ps_ret pe_bl)) pss_nil)
   (pss_one (ps_ret (pe_and (pe_call GSm hr (by rfl) DSm.at_ DSm.fn.kp DSm.bn .nil pass0 (pa_cons (pe_call GCp hr (by rfl) DCp.at_ DCp.fn.kp DCp.bn .nil passE (pa_cons (pv 0) (pa_cons (pe_ix ix_tup (pv 3) pe_int (fun _ _=>rfl)) pa_nil))) (pa_cons (pv 1) pa_nil))) (pe_one (pe_call GSm hr (by rfl) DSm.at_ DSm.fn.kp DSm.bn .nil pass0 (pa_cons (pe_call GCo hr (by rfl) DCo.at_ DCo.fn.kp DCo.bn .nil passE (pa_cons (pv 0) (pa_cons (pe_ix ix_tup (pv 3) pe_int (fun _ _=>rfl)) (pa_cons (pv 2) pa_nil)))) (pa_cons (pe_ix ix_tup (pv 3) pe_int (fun _ _=>rfl)) pa_nil)))))))))))),?_⟩
  refine ⟨_,rfl,_,rfl,_,rfl,p,q0,r0,es,cs,pr,rfl,SqT.of hp,SqT.of hc,hpr,hge,hgc,by omega,by omega,h7,fun H1 x t tt ts sts R S1 hx ht hT hR hto hsl=>?_⟩
  obtain ⟨pl,hmade,hwalk,hcost⟩:=told_made hR hto hcl
  have hok:=told_ok hgc (by omega) sts 0 0 (Nat.zero_le _) (Nat.zero_le _) hto
  have hread:=readS_text hok (by omega)
  have hX:=SqT.of (K:=K) hx
  have hTs:=SqT.of (K:=K) ht
  refine ⟨_,rfl,_,_,_,_,rfl,.tup hx,kit_same _,_,rfl,iteF ?_⟩
  refine ⟨_,rfl,x,_,rfl,.inr hX,rfl,_,rfl,iteNS rfl ?_⟩
  refine ⟨_,rfl,x,_,_,_,rfl,rfl,hX,rfl,_,_,_,_,rfl,.tup ht,kit_same _,_,rfl,iteF ?_⟩
  refine ⟨_,rfl,x,_,_,_,rfl,rfl,hX,rfl,t,ts,sts,rfl,hTs,hT.at,by omega,?_⟩
  refine ⟨_,rfl,_,_,_,_,rfl,.str _,kit_same _,_,rfl,iteF ?_⟩
  refine ⟨_,rfl,textS sts,rfl,text_len hok (by omega),?_⟩
  rw [hread]
  intro H2 r2 us S2 hr2 hU2
  have hx2:=S2 _ _ hx
  have ht2:=S2 _ _ ht
  have hT2:=hT.mono S2
  refine ⟨_,rfl,x,_,_,_,rfl,rfl,SqT.of hx2,rfl,_,_,rfl,sameV_steps hr2 ht2 hU2 hT2 (by omega),_,rfl,iteF ?_⟩
  have S12:=S1.trans S2
  refine ⟨_,rfl,x,_,_,_,rfl,rfl,SqT.of hx2,rfl,_,rfl,_,rfl,x,_,_,_,rfl,rfl,SqT.of hx2,rfl,_,rfl,p,t,r0,es,ts,sts,pr,es.length,cs,pl,rfl,SqT.of (S12 _ _ hp),hge,SqT.of ht2,hT2.at,by omega,sameT S12 hpr,h7,hwalk,by omega,fun H3 t3 c3 S3 ht3 hc3=>?_⟩
  refine ⟨t3,_,_,_,rfl,rfl,SqT.of ht3,rfl,_,_,rfl,(by rw [hcost];exact sameV_int _),_,rfl,iteF ?_⟩
  have S13:=S12.trans S3
  have hx3:=S3 _ _ hx2
  have ht33:=S3 _ _ ht2
  have hT3:=hT2.mono S3
  refine ⟨_,rfl,_,rfl,x,_,_,_,rfl,rfl,SqT.of hx3,rfl,_,rfl,p,t,r0,es,ts,sts,pr,es.length,cs,pl,rfl,SqT.of (S13 _ _ hp),hge,SqT.of ht33,hT3.at,by omega,sameT S13 hpr,h7,hwalk,by omega,fun H4 t4 c4 S4 ht4 hc4=>?_⟩
  refine ⟨_,rfl,cutTup (SqT.of ht4) fun p5 H5 S5 hp5=>?_⟩
  rw [cut_pair] at hp5
  have S15:=(S13.trans S4).trans S5
  have hp5':=S15 _ _ hp
  have hq5:=S15 _ _ hc
  refine ⟨_,rfl,p,_,rfl,.inr (SqT.of hp5'),_,rfl,few (by show 2<=_;omega),fun p6 hp6=>?_⟩
  have S6:=same_upd (o:=.tup [.int ((es.map V.str).length:Int),.ref q0]) hp6
  have S16:=S15.trans S6
  refine ⟨1,true,by decide,EqS.yes (.inr ⟨sameT S6 hp5,SqT.of upd_same⟩) rfl fun i a b ha hb=>?_,_,rfl,iteF ?_⟩
  ·match i,ha,hb with
   | 0,ha,hb=>
    cases ha
    cases hb
    rw [List.length_map]
    exact EqQ.self rfl 1
   | 1,ha,hb=>
    cases ha
    cases hb
    have:=EqS.strs (K:=K) (H:=_) (p:=c4) (r:=q0) (xs:=cs) (ys:=cs) (.inr ⟨sameT (S5.trans S6) hc4,SqT.of (S6 _ _ hq5)⟩)
    rw [decide_eq_true rfl] at this
    exact this.q
   | n+2,ha,hb=>simp at ha
  generalize upd H5 p6 (.tup [.int ((es.map V.str).length:Int),.ref q0])=H6 at S6 S16
  have S36:=(S4.trans S5).trans S6
  have hx6:=S36 _ _ hx3
  have ht6:=S36 _ _ ht33
  have hT6:=hT3.mono S36
  have hc6:=S16 _ _ hc
  refine ⟨_,rfl,_,rfl,x,_,_,_,rfl,rfl,SqT.of hx6,rfl,p,t,es,ts,sts,rfl,SqT.of (S16 _ _ hp),SqT.of ht6,hT6.at,by omega,?_⟩
  rw [hmade]
  intro a7 ha7
  have S7:=same_upd (o:=.tup (cs.map V.str)) ha7
  refine ⟨_,rfl,_,_,rfl,sameV_strs upd_same (S7 _ _ hc6) (by omega),true,rfl,iteT ?_⟩
  have S17:=S16.trans S7
  have hx7:=S7 _ _ hx6
  refine ⟨_,rfl,_,rfl,x,_,_,_,rfl,rfl,SqT.of hx7,rfl,_,rfl,p,t,r0,es,ts,sts,pr,rfl,SqT.of (S17 _ _ hp),hge,SqT.of (S7 _ _ ht6),(hT6.mono S7).at,by omega,sameT S17 hpr,h7,?_⟩
  rw [hmade]
  refine ⟨_,rfl,x,_,_,_,rfl,rfl,SqT.of hx7,rfl,_,_,rfl,(by rw [hcost];exact sameV_int _),q _ S17⟩
def RowAt (H:Hp) (a:Addr):Prop:=∃ es:List Str,H a=some (.tup (es.map V.str))/\(∀ z ∈ es,Good z)/\es.length<=6
theorem RowAt.mono {H H':Hp} {a:Addr} (S:Same H H') (h:RowAt H a):RowAt H' a:=by
 obtain ⟨es,h1,h2⟩:=h
 exact ⟨es,S _ _ h1,h2⟩
theorem cut_ints (ns:List Int) (lo hi:Option Int):∃ ms:List Int,cutV (ns.map V.int) lo hi=ms.map V.int/\(∀ m ∈ ms,m ∈ ns)/\ms.length<=ns.length:=by
 unfold cutV
 refine ⟨(ns.drop (HT.sIx (ns.map V.int).length 0 lo)).take (HT.sIx (ns.map V.int).length (ns.map V.int).length hi - HT.sIx (ns.map V.int).length 0 lo),by rw [<-List.map_drop,<-List.map_take],fun m hm=>List.mem_of_mem_drop (List.mem_of_mem_take hm),?_⟩
 rw [List.length_take,List.length_drop]
 omega
def spLaw (K:PySem.W.Frag):Sp:=fun vs H Q _=>∃ (a:Addr) (ns:List Int),vs=[.ref a]/\SqL K H a (ns.map V.int)/\ns.length<=63/\(∀ m ∈ ns,Builtin.Int.intBits m<=1048576)/\∀ H',Q (.bl true) H'
theorem scLaw:FnScope ["script","base","pool","prices","rows","cell","k"] ["script"] (defScope sLaw):=⟨rfl,rfl,rfl,by decide +kernel,rfl,by decide +kernel,by decide +kernel⟩
theorem ok_law {f gC gD gP gRo gCb gPb gRi:Addr} {fd dC dD dP dRo dCb dPb dRi:FuncData} (F:Fun K "law" "law" sLaw f fd)
  (DC:Dfn K mg "_law_cell_at" sCell gC dC ["script","k"]) (GC:FnOk P w K mg base CX0 8 gC dC ["script","k"] (spCell K)) (DD:Dfn K mg "_law_draw" sDraw gD dD ["cell","k","many"]) (GD:FnOk P w K mg base CX0 8 gD dD ["cell","k","many"] spDraw) (DP:Dfn K mg "_law_pool" sPool gP dP ["cell"]) (GP:FnOk P w K mg base CX0 8 gP dP ["cell"] spPool)
  (DRo:Dfn K mg "_law_row_by" sRowBy gRo dRo ["cell","pool","most"]) (GRo:FnOk P w K mg base CX0 8 gRo dRo ["cell","pool","most"] spRowBy) (DCb:Dfn K mg "_law_copy_by" sCopyBy gCb dCb ["base","cell","pool","most"]) (GCb:FnOk P w K mg base CX0 8 gCb dCb ["base","cell","pool","most"] (spCopyBy K)) (DPb:Dfn K mg "_law_prices_by" sPricesBy gPb dPb ["cell"]) (GPb:FnOk P w K mg base CX0 8 gPb dPb ["cell"] spPricesBy) (DRi:Dfn K mg "_law_right" sRight gRi dRi ["elder","copy","prices"]) (GRi:FnOk P w K mg base CX0 8 gRi dRi ["elder","copy","prices"] (spRight K))
  (mlen:mg "len" = none) (mrange:mg "range" = none):FnOk P w K mg base CX0 9 f fd ["script"] (spLaw K):=by
 refine F.ok scLaw (fun vs H Q E h=>?_) (fun cdv A outer s H vs Q E hr h=>?_)
 ·obtain ⟨a,ns,rfl,_⟩:=h
  rfl
 ·obtain ⟨a,ns,rfl,hS,hn,hb,q⟩:=h
  refine ⟨_,pss_cons (ps_set (i:=1) scLaw.nd rfl (Or.inl rfl) (pe_call GC hr (by rfl) DC.at_ DC.fn.kp DC.bn .nil pass0 (pa_cons (pv 0) (pa_cons pe_int pa_nil))))
   (pss_cons (ps_set (i:=2) scLaw.nd rfl (Or.inl rfl) (pe_call GP hr (by rfl) DP.at_ DP.fn.kp DP.bn .nil pass0 (pa_cons (pv 1) pa_nil)))
   (pss_cons (ps_set (i:=3) scLaw.nd rfl (Or.inl rfl) (pe_call GPb hr (by rfl) DPb.at_ DPb.fn.kp DPb.bn .nil pass0 (pa_cons (pv 1) pa_nil)))
   (pss_cons (ps_set (i:=4) scLaw.nd rfl (Or.inl rfl) (pe_lst (pa_cons (pe_call GRo hr (by rfl) DRo.at_ DRo.fn.kp DRo.bn .nil pass0 (pa_cons (pv 1) (pa_cons (pv 2) (pa_cons pe_int pa_nil)))) pa_nil)))
   (pss_cons (ps_for PassesOwn.never rfl (pi_list (pe_slice sl_lst (pv 0) (po_some pe_int) (po_some pe_int))) (pg_name (i:=5) scLaw.nd rfl (Or.inl rfl))
    (pss_one (ps_if (pt_cmpR op_eq (pe_call GD hr (by rfl) DD.at_ DD.fn.kp DD.bn .nil pass0 (pa_cons (pv 5) (pa_cons pe_int (pa_cons pe_int pa_nil)))) pe_int (nomark _))
     (pss_one (ps_expr (pe_bm PySem.F.plainAttrs_list PySem.F.slot_list_append PySem.F.type_list_append mt_append (pv 4) (pa_cons (pe_call GRo hr (by rfl) DRo.at_ DRo.fn.kp DRo.bn .nil pass0 (pa_cons (pv 5) (pa_cons (pv 2) (pa_cons pe_int pa_nil)))) pa_nil))))
     (pss_one (ps_expr (pe_bm PySem.F.plainAttrs_list PySem.F.slot_list_append PySem.F.type_list_append mt_append (pv 4) (pa_cons (pe_call GCb hr (by rfl) DCb.at_ DCb.fn.kp DCb.bn .nil pass0 (pa_cons (pe_ix ix_list (pv 4) (pe_un un_neg pe_int) (fun _ _=>rfl)) (pa_cons (pv 5) (pa_cons (pv 2) (pa_cons pe_int pa_nil))))) pa_nil)))))))
   (pss_cons (ps_for PassesOwn.never rfl (pi_range1 (by rfl) mrange (pa_cons (pe_callB call_len_seq (by rfl) mlen PySem.boot_len (pa_cons (pv 4) pa_nil)) pa_nil)) (pg_name (i:=6) scLaw.nd rfl (Or.inl rfl))
    (pss_one (ps_if (pt_not (pt_val (pe_call GRi hr (by rfl) DRi.at_ DRi.fn.kp DRi.bn .nil pass0 (pa_cons (pe_ix ix_list (pv 4) (pv 6) (fun _ _=>rfl)) (pa_cons (pe_ix ix_list (pv 4) (pe_op op_mod (pe_op op_add (pv 6) pe_int) (pe_callB call_len_seq (by rfl) mlen PySem.boot_len (pa_cons (pv 4) pa_nil))) (fun _ _=>rfl)) (pa_cons (pv 3) pa_nil)))))) (pss_one (ps_ret pe_bl)) pss_nil)))
   (pss_one (ps_ret pe_bl))))))),?_⟩
  have hc:=bits_cell hb 0
  refine ⟨_,rfl,a,ns,0,rfl,hS,by decide,?_⟩
  refine ⟨_,rfl,_,rfl,hc,fun pl ws hpl hwl hwg=>?_⟩
  have S1:=same_upd (o:=.lst (ws.map V.str)) hpl
  have hPool1:PoolAt (upd H pl (.lst (ws.map V.str))) pl ws:=⟨upd_same,by omega,by omega,hwg⟩
  generalize upd H pl (.lst (ws.map V.str))=H1 at S1 hPool1
  refine ⟨_,rfl,_,rfl,hc,fun pp pr hpp hp7 hP=>?_⟩
  have S2:=same_upd (o:=.tup (pr.map V.int)) hpp
  have hpr2:upd H1 pp (.tup (pr.map V.int)) pp=some (.tup (pr.map V.int)):=upd_same
  have hPool2:=hPool1.mono S2
  have S02:=S1.trans S2
  generalize upd H1 pp (.tup (pr.map V.int))=H2 at S02 hpr2 hPool2
  refine ⟨_,rfl,_,rfl,_,pl,ws,6,rfl,hc,hPool2,by decide,fun p0 es0 hp0 hg0 hl0=>?_⟩
  have S3:=same_upd (o:=.tup (es0.map V.str)) hp0
  refine ⟨few (by show 1<=_;omega),fun l hl=>?_⟩
  have S4:=same_upd (o:=.lst [V.ref p0]) hl
  have hl2:H2 l=none:=S3.free hl
  have S24:=S3.trans S4
  have hrow0:RowAt (upd (upd H2 p0 (.tup (es0.map V.str))) l (.lst [V.ref p0])) p0:=⟨es0,S4 _ _ upd_same,hg0,hl0⟩
  have hl4:upd (upd H2 p0 (.tup (es0.map V.str))) l (.lst [V.ref p0]) l=some (.lst [V.ref p0]):=upd_same
  generalize upd (upd H2 p0 (.tup (es0.map V.str))) l (.lst [V.ref p0])=H4 at S24 hrow0 hl4
  obtain ⟨ms,ecut,hms,hml⟩:=cut_ints ns (some 1) (some 9)
  refine ⟨_,rfl,_,rfl,_,rfl,a,_,rfl,(S02.trans S24).seq hS,fun p5 hp5=>?_⟩
  rw [ecut]
  have S5:=same_upd (o:=.lst (ms.map V.int)) hp5
  have n5:p5 ≠ l:=fun e=>by rw [e,hl4] at hp5;cases hp5
  have h55:upd H4 p5 (.lst (ms.map V.int)) p5=some (.lst (ms.map V.int)):=upd_same
  have hl5:=S5 _ _ hl4
  have hrow5:=hrow0.mono S5
  have S25:=S24.trans S5
  generalize upd H4 p5 (.lst (ms.map V.int))=H5 at S25 h55 hl5 hrow5
  refine ⟨p5,rfl,⟨_,SqL.of h55⟩,for_list (K:=K) (a:=p5) (xs:=ms.map V.int) (fun i σ H6=>∃ (as:List Addr) (v5:Option V),σ=[some (.ref a),some (.int (cellD ns 0)),some (.ref pl),some (.ref pp),some (.ref l),v5,none]/\H6 l=some (.lst (as.map V.ref))/\H6 p5=some (.lst (ms.map V.int))/\(∀ x ∈ as,RowAt H6 x)/\1<=as.length/\as.length<=i+1/\Same H2 H6)
   ⟨[p0],none,rfl,hl5,h55,fun x hx=>by rw [List.mem_singleton.mp hx];exact hrow5,Nat.le_refl _,Nat.le_refl _,S25⟩ (fun i σ H6 _ ⟨_,_,_,_,h,_⟩=>SqL.of h) ?_ ?_⟩
  ·rintro i y σ H6 hi ⟨as,v5,rfl,h6,h65,hR,ha1,ha2,S6⟩
   rw [List.getElem?_map] at hi
   obtain ⟨c,hci,rfl⟩:=Option.map_eq_some_iff.mp hi
   have hcb:=hb c (hms c (List.mem_of_getElem? hci))
   have hil:i < ms.length:=(List.getElem?_eq_some_iff.mp hci).1
   have hPool6:=hPool2.mono S6
   have put:∀ (p:Addr) (es:List Str),H6 p=none->(∀ z ∈ es,Good z)->es.length<=6 →
     upd (upd H6 p (.tup (es.map V.str))) l (.lst (as.map V.ref++[V.ref p])) l=some (.lst ((as++[p]).map V.ref))/\upd (upd H6 p (.tup (es.map V.str))) l (.lst (as.map V.ref++[V.ref p])) p5=some (.lst (ms.map V.int))/\(∀ x ∈ as++[p],RowAt (upd (upd H6 p (.tup (es.map V.str))) l (.lst (as.map V.ref++[V.ref p]))) x)/\Same H2 (upd (upd H6 p (.tup (es.map V.str))) l (.lst (as.map V.ref++[V.ref p]))):=fun p es hp hg hle=>by
    have T1:=same_upd (o:=.tup (es.map V.str)) hp
    have hl7:=T1 _ _ h6
    have keep:∀ x,RowAt (upd H6 p (.tup (es.map V.str))) x->RowAt (upd (upd H6 p (.tup (es.map V.str))) l (.lst (as.map V.ref++[V.ref p]))) x:=fun x ⟨es',k1,k2⟩=>⟨es',by rw [upd_ne (ne_of k1 hl7 (by intro z;cases z))];exact k1,k2⟩
    refine ⟨by rw [upd_same,List.map_append];rfl,by rw [upd_ne n5];exact T1 _ _ h65,fun x hx=>?_,same_to (S6.trans T1) hl2⟩
    rcases List.mem_append.mp hx with hx | hx
    ·exact keep x ((hR x hx).mono T1)
    ·rw [List.mem_singleton.mp hx];exact keep p ⟨es,upd_same,hg,hle⟩
   refine ⟨_,rfl,_,_,_,rfl,hcb,(by show (0:Int)<=73;decide),(by show (73:Int)<=100000;decide),(by show (0:Int) < 3;decide),rfl,_,rfl,ite2 (fun _=>?_) (fun _=>?_)⟩
   ·refine ⟨_,rfl,.inl ⟨rfl,_,SqL.of h6⟩,_,rfl,_,rfl,c,pl,ws,6,rfl,hcb,hPool6,by decide,fun p es hp hg hle=>?_⟩
    obtain ⟨k1,k2,k3,k4⟩:=put p es hp hg hle
    exact ⟨l,_,_,rfl,rfl,(same_upd hp) _ _ h6,(by rw [List.length_map];exact fewer (by omega)),as++[p],_,rfl,k1,k2,k3,by rw [List.length_append];omega,by rw [List.length_append];show _+1<=_;omega,k4⟩
   ·have hal:as.length - 1 < as.length:=by omega
    obtain ⟨esl,hle1,hle2,hle3⟩:=hR as[as.length - 1] (List.getElem_mem hal)
    have alast:atI (as.map V.ref) (-1)=some (.ref as[as.length - 1]):=atI_last (by rw [List.length_map,List.getElem?_map,List.getElem?_eq_getElem hal];rfl) (by rw [List.length_map];omega)
    refine ⟨_,rfl,.inl ⟨rfl,_,SqL.of h6⟩,_,rfl,_,rfl,l,_,_,_,rfl,rfl,SqL.of h6,alast,_,rfl,_,rfl,as[as.length - 1],esl,c,pl,ws,6,rfl,SqT.of hle1,hle2,by omega,hcb,hPool6,by decide,fun p es hp hg hle=>?_⟩
    obtain ⟨k1,k2,k3,k4⟩:=put p es hp hg hle
    exact ⟨l,_,_,rfl,rfl,(same_upd hp) _ _ h6,(by rw [List.length_map];exact fewer (by omega)),as++[p],_,rfl,k1,k2,k3,by rw [List.length_append];omega,by rw [List.length_append];show _+1<=_;omega,k4⟩
  ·rintro σ H6 ⟨as,v5,rfl,h6,h65,hR,ha1,ha2,S6⟩
   rw [List.length_map] at ha2
   have hla:(as.map V.ref).length=as.length:=List.length_map ..
   refine ⟨_,rfl,l,_,rfl,.inl (SqL.of h6),((as.length:Nat):Int),by rw [hla],by omega,by omega,?_⟩
   rw [Int.toNat_natCast]
   refine for_range (n:=as.length) (fun i σ H7=>∃ v6:Option V,σ=[some (.ref a),some (.int (cellD ns 0)),some (.ref pl),some (.ref pp),some (.ref l),v5,v6]/\Same H6 H7) ⟨none,rfl,Same.refl _⟩ ?_ ?_
   ·rintro i σ H7 hi ⟨v6,rfl,S7⟩
    have ei:(0:Int)+((i:Nat):Int)=((i:Nat):Int):=by omega
    rw [ei]
    have h7:=S7 _ _ h6
    have hj:(i+1) % as.length < as.length:=Nat.mod_lt _ (by omega)
    have e1:atI (as.map V.ref) ((i:Nat):Int)=some (.ref as[i]):=atI_nat (by rw [List.getElem?_map,List.getElem?_eq_getElem hi];rfl)
    have e2:atI (as.map V.ref) ((((i:Nat):Int)+1) % ((as.map V.ref).length:Int))=some (.ref as[(i+1) % as.length]):=by
     rw [hla,show (((i:Nat):Int)+1) % ((as.length:Nat):Int)=(((i+1) % as.length:Nat):Int) by push_cast;rfl]
     exact atI_nat (by rw [List.getElem?_map,List.getElem?_eq_getElem hj];rfl)
    obtain ⟨x1,k1,k2,k3⟩:=(hR as[i] (List.getElem_mem hi)).mono S7
    obtain ⟨x2,g1,g2,g3⟩:=(hR as[(i+1) % as.length] (List.getElem_mem hj)).mono S7
    refine ⟨_,rfl,_,rfl,l,_,_,_,rfl,rfl,SqL.of h7,e1,_,rfl,_,rfl,_,_,rfl,rfl,_,rfl,l,_,rfl,.inl (SqL.of h7),_,_,rfl,rfl,(by show (0:Int) < ((as.map V.ref).length:Int);rw [hla];omega),l,_,_,_,rfl,rfl,SqL.of h7,e2,_,rfl,as[i],as[(i+1) % as.length],pp,x1,x2,pr,rfl,k1,g1,SqT.of ((S6.trans S7) _ _ hpr2),k2,g2,by omega,by omega,hp7,fun H8 S8=>⟨_,rfl,iteF ⟨_,rfl,S7.trans S8⟩⟩⟩
   ·rintro σ H7 ⟨v6,rfl,S7⟩
    exact q _
theorem ok_all {f gHas gIsW gLooks gWr gNum gSkF gFits gWd gWw gAfter gWalk gCopy gPrice gCost gSwW gSkL gWays gEmp gTld gPtab gRtab gCW gFC gLs gKW gSW gWrt gCnt gPair gItem gRd gCell gDraw gWordBy gPool gRowBy gCopyBy gPricesBy gSame gLAlk gWB gPO gLWk gRight aB aW aD CN:Addr} {fd dHas dIsW dLooks dWr dNum dSkF dFits dWd dWw dAfter dWalk dCopy dPrice dCost dSwW dSkL dWays dEmp dTld dPtab dRtab dCW dFC dLs dKW dSW dWrt dCnt dPair dItem dRd dCell dDraw dWordBy dPool dRowBy dCopyBy dPricesBy dSame dLAlk dWB dPO dLWk dRight:FuncData} {esD:Array DictEntry} {nD:Nat} (F:Fun K "law" "law" sLaw f fd)
  (DHas:Dfn K mg "has_only" sHas gHas dHas ["text","signs"])
  (DIsW:Dfn K mg "is_word" sIsW gIsW dIsW ["text"])
  (DLooks:Dfn K mg "looks_alike" sLooks gLooks dLooks ["one","two"])
  (DWr:Dfn K mg "writes_number" sWr gWr dWr ["text"])
  (DNum:Dfn K mg "number_of" sNum gNum dNum ["text","most"])
  (DSkF:Dfn K mg "skip_fits" sSkF gSkF dSkF ["elder","done","many"])
  (DFits:Dfn K mg "step_fits" sFits gFits dFits ["elder","done","last","step"])
  (DWd:Dfn K mg "words_done" sWd gWd dWd ["step"])
  (DWw:Dfn K mg "words_written" sWw gWw dWw ["elder","done","last","step"])
  (DAfter:Dfn K mg "step_after" sAfter gAfter dAfter ["elder","done","last","step"])
  (DWalk:Dfn K mg "steps_walked" sWalk gWalk dWalk ["elder","steps"])
  (DCopy:Dfn K mg "copy_made" sCopy gCopy dCopy ["elder","steps"])
  (DPrice:Dfn K mg "step_price" sPrice gPrice dPrice ["elder","done","step","prices"])
  (DCost:Dfn K mg "slips_price" sCost gCost dCost ["elder","steps","prices"])
  (DSwW:Dfn K mg "swap_writes" sSwW gSwW dSwW ["elder","copy","i","j"])
  (DSkL:Dfn K mg "skip_lengths" sSkL gSkL dSkL ["elder","i"])
  (DWays:Dfn K mg "knot_ways" sWays gWays dWays ["elder","copy","i","j"])
  (DEmp:Dfn K mg "empty_table" sEmp gEmp dEmp ["elder","copy"])
  (DTld:Dfn K mg "table_told" sTld gTld dTld ["table"])
  (DPtab:Dfn K mg "price_table" sPtab gPtab dPtab ["elder","copy","prices"])
  (DRtab:Dfn K mg "rest_table" sRtab gRtab dRtab ["elder","copy","prices"])
  (DCW:Dfn K mg "cheapest_ways" sCW gCW dCW ["elder","copy","prices","rest","i","j"])
  (DFC:Dfn K mg "first_cheapest" sFC gFC dFC ["elder","copy","prices"])
  (DLs:Dfn K mg "least_slips" sLs gLs dLs ["elder","copy","prices"])
  (DKW:Dfn K mg "keeps_written" sKW gKW dKW ["many"])
  (DSW:Dfn K mg "step_written" sSW gSW dSW ["step"])
  (DWrt:Dfn K mg "slips_written" sWrt gWrt dWrt ["steps"])
  (DCnt:Dfn K mg "count_read" sCnt gCnt dCnt ["text"])
  (DPair:Dfn K mg "pair_read" sPair gPair dPair ["kind","said"])
  (DItem:Dfn K mg "item_read" sItem gItem dItem ["item"])
  (DRd:Dfn K mg "slips_read" sRd gRd dRd ["text"])
  (DCell:Dfn K mg "_law_cell_at" sCell gCell dCell ["script","k"])
  (DDraw:Dfn K mg "_law_draw" sDraw gDraw dDraw ["cell","k","many"])
  (DWordBy:Dfn K mg "_law_word_by" sWordBy gWordBy dWordBy ["cell","k"])
  (DPool:Dfn K mg "_law_pool" sPool gPool dPool ["cell"])
  (DRowBy:Dfn K mg "_law_row_by" sRowBy gRowBy dRowBy ["cell","pool","most"])
  (DCopyBy:Dfn K mg "_law_copy_by" sCopyBy gCopyBy dCopyBy ["base","cell","pool","most"])
  (DPricesBy:Dfn K mg "_law_prices_by" sPricesBy gPricesBy dPricesBy ["cell"])
  (DSame:Dfn K mg "_law_same" sSame gSame dSame ["found","due"])
  (DLAlk:Dfn K mg "_law_alike" sLAlk gLAlk dLAlk ["one","two"])
  (DWB:Dfn K mg "_law_written_by" sWB gWB dWB ["elder","done","copy","step"])
  (DPO:Dfn K mg "_law_price_of" sPO gPO dPO ["elder","done","step","prices"])
  (DLWk:Dfn K mg "_law_walked" sLWk gLWk dLWk ["elder","steps","prices"])
  (DRight:Dfn K mg "_law_right" sRight gRight dRight ["elder","copy","prices"])
  (mall:mg "all" = none) (mlen:mg "len" = none) (mrange:mg "range" = none) (misi:mg "isinstance" = none) (mtup:mg "tuple" = none) (mstr:mg "str" = none) (mint:mg "int" = none) (mbool:mg "bool" = none) (msum:mg "sum" = none) (mzip:mg "zip" = none) (mmin:mg "min" = none)
  {tl tf tm ts tw tk:Tok} (mL:mg "LETTERS" = some (.str letters tl)) (mF:mg "FIGURES" = some (.str figures tf)) (mM:mg "MOST_LETTERS" = some (.int 12 tm)) (mS:mg "MOST_STEPS" = some (.int 80 ts)) (mBK:mg "BARE_KINDS" = some (.ref aB)) (mWK:mg "WORD_KINDS" = some (.ref aW)) (mW:mg "MOST_WORDS" = some (.int 40 tw)) (mLk:mg "LIKE" = some (.int 0 tk)) (mP:mg "PRICE_PLACES" = some (.ref aD)) (m7:mg "NoSlips" = some (.ref CN))
  (xC:VEx K CN) (hBK:∀ H,SqT K H aB [.str (Str.ofString "lose"),.str (Str.ofString "twice"),.str (Str.ofString "swap")]) (hWK:∀ H,SqT K H aW [.str (Str.ofString "turn"),.str (Str.ofString "add")]) (kk:Kinds K) (PL:Places w K aD esD nD) :
  FnOk P w K mg base CX0 9 f fd ["script"] (spLaw K):=by
 have GIsW:FnOk P w K mg base CX0 2 gIsW dIsW ["text"] spIsW:=ok_isw DIsW.fn DHas mall mlen mL mM
 have GNum:FnOk P w K mg base CX0 3 gNum dNum ["text","most"] spNum:=ok_num DNum.fn DWr DHas mall mlen mstr mint mF
 have GCnt:FnOk P w K mg base CX0 4 gCnt dCnt ["text"] spCnt:=ok_cnt DCnt.fn DNum GNum mS
 have GPair:FnOk P w K mg base CX0 5 gPair dPair ["kind","said"] spPair:=ok_pair DPair.fn DIsW DCnt GIsW GCnt mWK hWK
 have GItem:FnOk P w K mg base (CXv P w) 6 gItem dItem ["item"] (spItem CN):=ok_item DItem.fn DCnt DPair GCnt GPair mBK hBK m7 xC mlen
 have GRd:FnOk P w K mg base (CXv P w) 7 gRd dRd ["text"] (spRd CN):=ok_rd DRd.fn DItem GItem m7 xC mlen mtup mS
 have GWrt:FnOk P w K mg base CX0 7 gWrt dWrt ["steps"] (spWrt K):=(ok_wrt DWrt.fn DKW DSW mstr).mono (by decide)
 have GAfter:FnOk P w K mg base (CXv P w) 3 gAfter dAfter ["elder","done","last","step"] (spAfter K CN):=ok_after DAfter.fn DFits DSkF DWd DWw m7 xC mlen
 have GWalk:FnOk P w K mg base (CXv P w) 4 gWalk dWalk ["elder","steps"] (spWalk K CN):=ok_walk DWalk.fn DAfter GAfter m7 xC mlen mtup mW
 have GCopy:FnOk P w K mg base (CXv P w) 7 gCopy dCopy ["elder","steps"] (spCopy K CN):=(ok_copy DCopy.fn DWalk GWalk).mono (by decide)
 have GLooks:FnOk P w K mg base CX0 1 gLooks dLooks ["one","two"] spAlike:=ok_Looks DLooks.fn mlen mrange
 have GPrice:FnOk P w K mg base CX0 2 gPrice dPrice ["elder","done","step","prices"] (spPrice K):=ok_price DPrice.fn DLooks GLooks mLk mP PL
 have GCost:FnOk P w K mg base (CXv P w) 7 gCost dCost ["elder","steps","prices"] (spCost K CN):=(ok_cost DCost.fn DWalk GWalk DPrice (GPrice.mono (by decide)) msum mzip).mono (by decide)
 have GWays:FnOk P w K mg base CX0 2 gWays dWays ["elder","copy","i","j"] (spWays K):=ok_ways DWays.fn DSwW DSkL mlen mrange
 have GPtab:FnOk P w K mg base CX0 4 gPtab dPtab ["elder","copy","prices"] (spPtab K):=(ok_ptab DPtab.fn DEmp DTld DWays GWays DPrice GPrice mlen mrange mtup).mono (by decide)
 have GRtab:FnOk P w K mg base CX0 3 gRtab dRtab ["elder","copy","prices"] (spRtab K):=ok_rtab DRtab.fn DEmp DTld DWays GWays DPrice GPrice mlen mrange mtup mmin
 have GCW:FnOk P w K mg base CX0 3 gCW dCW ["elder","copy","prices","rest","i","j"] (spCW K):=ok_cw DCW.fn DWays GWays DPrice GPrice
 have GFC:FnOk P w K mg base CX0 4 gFC dFC ["elder","copy","prices"] (spFC K):=ok_fc DFC.fn DRtab GRtab DCW GCW mlen mtup
 have GLs:FnOk P w K mg base CX0 7 gLs dLs ["elder","copy","prices"] (spLs K):=(ok_ls DLs.fn DPtab GPtab DFC GFC).mono (by decide)
 have GSame:FnOk P w K mg base CX0 7 gSame dSame ["found","due"] (spSame 2):=(ok_same DSame.fn DSame misi mtup mstr mint mbool mlen mrange mall kk 2).mono (by decide)
 have GLAlk:FnOk P w K mg base CX0 1 gLAlk dLAlk ["one","two"] spAlike:=ok_lalk DLAlk.fn mlen mrange
 have GPO:FnOk P w K mg base CX0 2 gPO dPO ["elder","done","step","prices"] (spPrice K):=ok_po DPO.fn DLAlk GLAlk mint
 have GLWk:FnOk P w K mg base CX0 7 gLWk dLWk ["elder","steps","prices"] (spLWk K):=(ok_lwk DLWk.fn DWB DPO GPO mint).mono (by decide)
 have GRight:FnOk P w K mg base CX0 8 gRight dRight ["elder","copy","prices"] (spRight K):=ok_right DRight.fn DLs GLs DWrt GWrt DRd GRd DSame GSame DLWk GLWk DCopy GCopy DCost GCost misi mtup mstr mlen
 have GCell:FnOk P w K mg base CX0 8 gCell dCell ["script","k"] (spCell K):=(ok_cell DCell.fn mlen).mono (by decide)
 have GDraw:FnOk P w K mg base CX0 8 gDraw dDraw ["cell","k","many"] spDraw:=(ok_draw DDraw.fn).mono (by decide)
 have GPool:FnOk P w K mg base CX0 8 gPool dPool ["cell"] spPool:=(ok_pool DPool.fn DDraw DWordBy mrange mlen).mono (by decide)
 have GRowBy:FnOk P w K mg base CX0 8 gRowBy dRowBy ["cell","pool","most"] spRowBy:=(ok_rowby DRowBy.fn DDraw mrange mlen mtup).mono (by decide)
 have GCopyBy:FnOk P w K mg base CX0 8 gCopyBy dCopyBy ["base","cell","pool","most"] (spCopyBy K):=(ok_copyby DCopyBy.fn DDraw mrange mlen mtup mint).mono (by decide)
 have GPricesBy:FnOk P w K mg base CX0 8 gPricesBy dPricesBy ["cell"] spPricesBy:=(ok_pricesby DPricesBy.fn DDraw mrange mtup).mono (by decide)
 exact ok_law F DCell GCell DDraw GDraw DPool GPool DRowBy GRowBy DCopyBy GCopyBy DPricesBy GPricesBy DRight GRight mlen mrange
end
theorem all_mk {l:PySem.W.OpenLaw} {w:World} {K:PySem.W.Frag} {h:Heap} {mg:Str->Option Value} {fa fHas fIsW fLooks fWr fNum fSkF fFits fWd fWw fAfter fWalk fCopy fPrice fCost fSwW fSkL fWays fEmp fTld fPtab fRtab fCW fFC fLs fKW fSW fWrt fCnt fPair fItem fRd fCell fDraw fWordBy fPool fRowBy fCopyBy fPricesBy fSame fLAlk fWB fPO fLWk fRight fLaw CNoSlips:Addr} (X:K.In h) (G:h.Ns mainGlobals mg) (hfa:mg "law" = some (.ref fa))
  {odHas anHas odIsW anIsW odLooks anLooks odWr anWr odNum anNum odSkF anSkF odFits anFits odWd anWd odWw anWw odAfter anAfter odWalk anWalk odCopy anCopy odPrice anPrice odCost anCost odSwW anSwW odSkL anSkL odWays anWays odEmp anEmp odTld anTld odPtab anPtab odRtab anRtab odCW anCW odFC anFC odLs anLs odKW anKW odSW anSW odWrt anWrt odCnt anCnt odPair anPair odItem anItem odRd anRd odCell anCell odDraw anDraw odWordBy anWordBy odPool anPool odRowBy anRowBy odCopyBy anCopyBy odPricesBy anPricesBy odSame anSame odLAlk anLAlk odWB anWB odPO anPO odLWk anLWk odRight anRight odLaw anLaw:Option Addr} {slHas slIsW slLooks slWr slNum slSkF slFits slWd slWw slAfter slWalk slCopy slPrice slCost slSwW slSkL slWays slEmp slTld slPtab slRtab slCW slFC slLs slKW slSW slWrt slCnt slPair slItem slRd slCell slDraw slWordBy slPool slRowBy slCopyBy slPricesBy slSame slLAlk slWB slPO slLWk slRight slLaw:Array (Option Value)} {ocHas kVHas dcHas pmHas cdHas ctHas ocIsW kVIsW dcIsW pmIsW cdIsW ctIsW ocLooks kVLooks dcLooks pmLooks cdLooks ctLooks ocWr kVWr dcWr pmWr cdWr ctWr ocNum kVNum dcNum pmNum cdNum ctNum ocSkF kVSkF dcSkF pmSkF cdSkF ctSkF ocFits kVFits dcFits pmFits cdFits ctFits ocWd kVWd dcWd pmWd cdWd ctWd ocWw kVWw dcWw pmWw cdWw ctWw ocAfter kVAfter dcAfter pmAfter cdAfter ctAfter ocWalk kVWalk dcWalk pmWalk cdWalk ctWalk ocCopy kVCopy dcCopy pmCopy cdCopy ctCopy ocPrice kVPrice dcPrice pmPrice cdPrice ctPrice ocCost kVCost dcCost pmCost cdCost ctCost ocSwW kVSwW dcSwW pmSwW cdSwW ctSwW ocSkL kVSkL dcSkL pmSkL cdSkL ctSkL ocWays kVWays dcWays pmWays cdWays ctWays ocEmp kVEmp dcEmp pmEmp cdEmp ctEmp ocTld kVTld dcTld pmTld cdTld ctTld ocPtab kVPtab dcPtab pmPtab cdPtab ctPtab ocRtab kVRtab dcRtab pmRtab cdRtab ctRtab ocCW kVCW dcCW pmCW cdCW ctCW ocFC kVFC dcFC pmFC cdFC ctFC ocLs kVLs dcLs pmLs cdLs ctLs ocKW kVKW dcKW pmKW cdKW ctKW ocSW kVSW dcSW pmSW cdSW ctSW ocWrt kVWrt dcWrt pmWrt cdWrt ctWrt ocCnt kVCnt dcCnt pmCnt cdCnt ctCnt ocPair kVPair dcPair pmPair cdPair ctPair ocItem kVItem dcItem pmItem cdItem ctItem ocRd kVRd dcRd pmRd cdRd ctRd ocCell kVCell dcCell pmCell cdCell ctCell ocDraw kVDraw dcDraw pmDraw cdDraw ctDraw ocWordBy kVWordBy dcWordBy pmWordBy cdWordBy ctWordBy ocPool kVPool dcPool pmPool cdPool ctPool ocRowBy kVRowBy dcRowBy pmRowBy cdRowBy ctRowBy ocCopyBy kVCopyBy dcCopyBy pmCopyBy cdCopyBy ctCopyBy ocPricesBy kVPricesBy dcPricesBy pmPricesBy cdPricesBy ctPricesBy ocSame kVSame dcSame pmSame cdSame ctSame ocLAlk kVLAlk dcLAlk pmLAlk cdLAlk ctLAlk ocWB kVWB dcWB pmWB cdWB ctWB ocPO kVPO dcPO pmPO cdPO ctPO ocLWk kVLWk dcLWk pmLWk cdLWk ctLWk ocRight kVRight dcRight pmRight cdRight ctRight ocLaw kVLaw dcLaw pmLaw cdLaw ctLaw:Value} {tkLETTERS tkFIGURES tkMOST_LETTERS tkMOST_STEPS tkMOST_WORDS tkLIKE:Tok}
  {aB aW aD:Addr} {nB nW nD:Nat} {esD:Array DictEntry} {p1 p2 p3 p4 p5 q1 q2 q3 q4 q5 q6:Tok}
  (aHas:PySem.W.nsIn K mainGlobals "has_only" = some (some (.ref fHas))) (lHas:K.lookup fHas=some ⟨ocHas,odHas,.func (PySem.W.fnOf "has_only" "has_only" (defArgs sHas) (defBody sHas) (defScope sHas) .none kVHas dcHas pmHas anHas cdHas ctHas),slHas⟩) (cHas:PySem.W.codeIn K cdHas "has_only" = true) (kHas:PySem.W.keepIn K (.ref fHas)=true)
  (aIsW:PySem.W.nsIn K mainGlobals "is_word" = some (some (.ref fIsW))) (lIsW:K.lookup fIsW=some ⟨ocIsW,odIsW,.func (PySem.W.fnOf "is_word" "is_word" (defArgs sIsW) (defBody sIsW) (defScope sIsW) .none kVIsW dcIsW pmIsW anIsW cdIsW ctIsW),slIsW⟩) (cIsW:PySem.W.codeIn K cdIsW "is_word" = true) (kIsW:PySem.W.keepIn K (.ref fIsW)=true)
  (aLooks:PySem.W.nsIn K mainGlobals "looks_alike" = some (some (.ref fLooks))) (lLooks:K.lookup fLooks=some ⟨ocLooks,odLooks,.func (PySem.W.fnOf "looks_alike" "looks_alike" (defArgs sLooks) (defBody sLooks) (defScope sLooks) .none kVLooks dcLooks pmLooks anLooks cdLooks ctLooks),slLooks⟩) (cLooks:PySem.W.codeIn K cdLooks "looks_alike" = true) (kLooks:PySem.W.keepIn K (.ref fLooks)=true)
  (aWr:PySem.W.nsIn K mainGlobals "writes_number" = some (some (.ref fWr))) (lWr:K.lookup fWr=some ⟨ocWr,odWr,.func (PySem.W.fnOf "writes_number" "writes_number" (defArgs sWr) (defBody sWr) (defScope sWr) .none kVWr dcWr pmWr anWr cdWr ctWr),slWr⟩) (cWr:PySem.W.codeIn K cdWr "writes_number" = true) (kWr:PySem.W.keepIn K (.ref fWr)=true)
  (aNum:PySem.W.nsIn K mainGlobals "number_of" = some (some (.ref fNum))) (lNum:K.lookup fNum=some ⟨ocNum,odNum,.func (PySem.W.fnOf "number_of" "number_of" (defArgs sNum) (defBody sNum) (defScope sNum) .none kVNum dcNum pmNum anNum cdNum ctNum),slNum⟩) (cNum:PySem.W.codeIn K cdNum "number_of" = true) (kNum:PySem.W.keepIn K (.ref fNum)=true)
  (aSkF:PySem.W.nsIn K mainGlobals "skip_fits" = some (some (.ref fSkF))) (lSkF:K.lookup fSkF=some ⟨ocSkF,odSkF,.func (PySem.W.fnOf "skip_fits" "skip_fits" (defArgs sSkF) (defBody sSkF) (defScope sSkF) .none kVSkF dcSkF pmSkF anSkF cdSkF ctSkF),slSkF⟩) (cSkF:PySem.W.codeIn K cdSkF "skip_fits" = true) (kSkF:PySem.W.keepIn K (.ref fSkF)=true)
  (aFits:PySem.W.nsIn K mainGlobals "step_fits" = some (some (.ref fFits))) (lFits:K.lookup fFits=some ⟨ocFits,odFits,.func (PySem.W.fnOf "step_fits" "step_fits" (defArgs sFits) (defBody sFits) (defScope sFits) .none kVFits dcFits pmFits anFits cdFits ctFits),slFits⟩) (cFits:PySem.W.codeIn K cdFits "step_fits" = true) (kFits:PySem.W.keepIn K (.ref fFits)=true)
  (aWd:PySem.W.nsIn K mainGlobals "words_done" = some (some (.ref fWd))) (lWd:K.lookup fWd=some ⟨ocWd,odWd,.func (PySem.W.fnOf "words_done" "words_done" (defArgs sWd) (defBody sWd) (defScope sWd) .none kVWd dcWd pmWd anWd cdWd ctWd),slWd⟩) (cWd:PySem.W.codeIn K cdWd "words_done" = true) (kWd:PySem.W.keepIn K (.ref fWd)=true)
  (aWw:PySem.W.nsIn K mainGlobals "words_written" = some (some (.ref fWw))) (lWw:K.lookup fWw=some ⟨ocWw,odWw,.func (PySem.W.fnOf "words_written" "words_written" (defArgs sWw) (defBody sWw) (defScope sWw) .none kVWw dcWw pmWw anWw cdWw ctWw),slWw⟩) (cWw:PySem.W.codeIn K cdWw "words_written" = true) (kWw:PySem.W.keepIn K (.ref fWw)=true)
  (aAfter:PySem.W.nsIn K mainGlobals "step_after" = some (some (.ref fAfter))) (lAfter:K.lookup fAfter=some ⟨ocAfter,odAfter,.func (PySem.W.fnOf "step_after" "step_after" (defArgs sAfter) (defBody sAfter) (defScope sAfter) .none kVAfter dcAfter pmAfter anAfter cdAfter ctAfter),slAfter⟩) (cAfter:PySem.W.codeIn K cdAfter "step_after" = true) (kAfter:PySem.W.keepIn K (.ref fAfter)=true)
  (aWalk:PySem.W.nsIn K mainGlobals "steps_walked" = some (some (.ref fWalk))) (lWalk:K.lookup fWalk=some ⟨ocWalk,odWalk,.func (PySem.W.fnOf "steps_walked" "steps_walked" (defArgs sWalk) (defBody sWalk) (defScope sWalk) .none kVWalk dcWalk pmWalk anWalk cdWalk ctWalk),slWalk⟩) (cWalk:PySem.W.codeIn K cdWalk "steps_walked" = true) (kWalk:PySem.W.keepIn K (.ref fWalk)=true)
  (aCopy:PySem.W.nsIn K mainGlobals "copy_made" = some (some (.ref fCopy))) (lCopy:K.lookup fCopy=some ⟨ocCopy,odCopy,.func (PySem.W.fnOf "copy_made" "copy_made" (defArgs sCopy) (defBody sCopy) (defScope sCopy) .none kVCopy dcCopy pmCopy anCopy cdCopy ctCopy),slCopy⟩) (cCopy:PySem.W.codeIn K cdCopy "copy_made" = true) (kCopy:PySem.W.keepIn K (.ref fCopy)=true)
  (aPrice:PySem.W.nsIn K mainGlobals "step_price" = some (some (.ref fPrice))) (lPrice:K.lookup fPrice=some ⟨ocPrice,odPrice,.func (PySem.W.fnOf "step_price" "step_price" (defArgs sPrice) (defBody sPrice) (defScope sPrice) .none kVPrice dcPrice pmPrice anPrice cdPrice ctPrice),slPrice⟩) (cPrice:PySem.W.codeIn K cdPrice "step_price" = true) (kPrice:PySem.W.keepIn K (.ref fPrice)=true)
  (aCost:PySem.W.nsIn K mainGlobals "slips_price" = some (some (.ref fCost))) (lCost:K.lookup fCost=some ⟨ocCost,odCost,.func (PySem.W.fnOf "slips_price" "slips_price" (defArgs sCost) (defBody sCost) (defScope sCost) .none kVCost dcCost pmCost anCost cdCost ctCost),slCost⟩) (cCost:PySem.W.codeIn K cdCost "slips_price" = true) (kCost:PySem.W.keepIn K (.ref fCost)=true)
  (aSwW:PySem.W.nsIn K mainGlobals "swap_writes" = some (some (.ref fSwW))) (lSwW:K.lookup fSwW=some ⟨ocSwW,odSwW,.func (PySem.W.fnOf "swap_writes" "swap_writes" (defArgs sSwW) (defBody sSwW) (defScope sSwW) .none kVSwW dcSwW pmSwW anSwW cdSwW ctSwW),slSwW⟩) (cSwW:PySem.W.codeIn K cdSwW "swap_writes" = true) (kSwW:PySem.W.keepIn K (.ref fSwW)=true)
  (aSkL:PySem.W.nsIn K mainGlobals "skip_lengths" = some (some (.ref fSkL))) (lSkL:K.lookup fSkL=some ⟨ocSkL,odSkL,.func (PySem.W.fnOf "skip_lengths" "skip_lengths" (defArgs sSkL) (defBody sSkL) (defScope sSkL) .none kVSkL dcSkL pmSkL anSkL cdSkL ctSkL),slSkL⟩) (cSkL:PySem.W.codeIn K cdSkL "skip_lengths" = true) (kSkL:PySem.W.keepIn K (.ref fSkL)=true)
  (aWays:PySem.W.nsIn K mainGlobals "knot_ways" = some (some (.ref fWays))) (lWays:K.lookup fWays=some ⟨ocWays,odWays,.func (PySem.W.fnOf "knot_ways" "knot_ways" (defArgs sWays) (defBody sWays) (defScope sWays) .none kVWays dcWays pmWays anWays cdWays ctWays),slWays⟩) (cWays:PySem.W.codeIn K cdWays "knot_ways" = true) (kWays:PySem.W.keepIn K (.ref fWays)=true)
  (aEmp:PySem.W.nsIn K mainGlobals "empty_table" = some (some (.ref fEmp))) (lEmp:K.lookup fEmp=some ⟨ocEmp,odEmp,.func (PySem.W.fnOf "empty_table" "empty_table" (defArgs sEmp) (defBody sEmp) (defScope sEmp) .none kVEmp dcEmp pmEmp anEmp cdEmp ctEmp),slEmp⟩) (cEmp:PySem.W.codeIn K cdEmp "empty_table" = true) (kEmp:PySem.W.keepIn K (.ref fEmp)=true)
  (aTld:PySem.W.nsIn K mainGlobals "table_told" = some (some (.ref fTld))) (lTld:K.lookup fTld=some ⟨ocTld,odTld,.func (PySem.W.fnOf "table_told" "table_told" (defArgs sTld) (defBody sTld) (defScope sTld) .none kVTld dcTld pmTld anTld cdTld ctTld),slTld⟩) (cTld:PySem.W.codeIn K cdTld "table_told" = true) (kTld:PySem.W.keepIn K (.ref fTld)=true)
  (aPtab:PySem.W.nsIn K mainGlobals "price_table" = some (some (.ref fPtab))) (lPtab:K.lookup fPtab=some ⟨ocPtab,odPtab,.func (PySem.W.fnOf "price_table" "price_table" (defArgs sPtab) (defBody sPtab) (defScope sPtab) .none kVPtab dcPtab pmPtab anPtab cdPtab ctPtab),slPtab⟩) (cPtab:PySem.W.codeIn K cdPtab "price_table" = true) (kPtab:PySem.W.keepIn K (.ref fPtab)=true)
  (aRtab:PySem.W.nsIn K mainGlobals "rest_table" = some (some (.ref fRtab))) (lRtab:K.lookup fRtab=some ⟨ocRtab,odRtab,.func (PySem.W.fnOf "rest_table" "rest_table" (defArgs sRtab) (defBody sRtab) (defScope sRtab) .none kVRtab dcRtab pmRtab anRtab cdRtab ctRtab),slRtab⟩) (cRtab:PySem.W.codeIn K cdRtab "rest_table" = true) (kRtab:PySem.W.keepIn K (.ref fRtab)=true)
  (aCW:PySem.W.nsIn K mainGlobals "cheapest_ways" = some (some (.ref fCW))) (lCW:K.lookup fCW=some ⟨ocCW,odCW,.func (PySem.W.fnOf "cheapest_ways" "cheapest_ways" (defArgs sCW) (defBody sCW) (defScope sCW) .none kVCW dcCW pmCW anCW cdCW ctCW),slCW⟩) (cCW:PySem.W.codeIn K cdCW "cheapest_ways" = true) (kCW:PySem.W.keepIn K (.ref fCW)=true)
  (aFC:PySem.W.nsIn K mainGlobals "first_cheapest" = some (some (.ref fFC))) (lFC:K.lookup fFC=some ⟨ocFC,odFC,.func (PySem.W.fnOf "first_cheapest" "first_cheapest" (defArgs sFC) (defBody sFC) (defScope sFC) .none kVFC dcFC pmFC anFC cdFC ctFC),slFC⟩) (cFC:PySem.W.codeIn K cdFC "first_cheapest" = true) (kFC:PySem.W.keepIn K (.ref fFC)=true)
  (aLs:PySem.W.nsIn K mainGlobals "least_slips" = some (some (.ref fLs))) (lLs:K.lookup fLs=some ⟨ocLs,odLs,.func (PySem.W.fnOf "least_slips" "least_slips" (defArgs sLs) (defBody sLs) (defScope sLs) .none kVLs dcLs pmLs anLs cdLs ctLs),slLs⟩) (cLs:PySem.W.codeIn K cdLs "least_slips" = true) (kLs:PySem.W.keepIn K (.ref fLs)=true)
  (aKW:PySem.W.nsIn K mainGlobals "keeps_written" = some (some (.ref fKW))) (lKW:K.lookup fKW=some ⟨ocKW,odKW,.func (PySem.W.fnOf "keeps_written" "keeps_written" (defArgs sKW) (defBody sKW) (defScope sKW) .none kVKW dcKW pmKW anKW cdKW ctKW),slKW⟩) (cKW:PySem.W.codeIn K cdKW "keeps_written" = true) (kKW:PySem.W.keepIn K (.ref fKW)=true)
  (aSW:PySem.W.nsIn K mainGlobals "step_written" = some (some (.ref fSW))) (lSW:K.lookup fSW=some ⟨ocSW,odSW,.func (PySem.W.fnOf "step_written" "step_written" (defArgs sSW) (defBody sSW) (defScope sSW) .none kVSW dcSW pmSW anSW cdSW ctSW),slSW⟩) (cSW:PySem.W.codeIn K cdSW "step_written" = true) (kSW:PySem.W.keepIn K (.ref fSW)=true)
  (aWrt:PySem.W.nsIn K mainGlobals "slips_written" = some (some (.ref fWrt))) (lWrt:K.lookup fWrt=some ⟨ocWrt,odWrt,.func (PySem.W.fnOf "slips_written" "slips_written" (defArgs sWrt) (defBody sWrt) (defScope sWrt) .none kVWrt dcWrt pmWrt anWrt cdWrt ctWrt),slWrt⟩) (cWrt:PySem.W.codeIn K cdWrt "slips_written" = true) (kWrt:PySem.W.keepIn K (.ref fWrt)=true)
  (aCnt:PySem.W.nsIn K mainGlobals "count_read" = some (some (.ref fCnt))) (lCnt:K.lookup fCnt=some ⟨ocCnt,odCnt,.func (PySem.W.fnOf "count_read" "count_read" (defArgs sCnt) (defBody sCnt) (defScope sCnt) .none kVCnt dcCnt pmCnt anCnt cdCnt ctCnt),slCnt⟩) (cCnt:PySem.W.codeIn K cdCnt "count_read" = true) (kCnt:PySem.W.keepIn K (.ref fCnt)=true)
  (aPair:PySem.W.nsIn K mainGlobals "pair_read" = some (some (.ref fPair))) (lPair:K.lookup fPair=some ⟨ocPair,odPair,.func (PySem.W.fnOf "pair_read" "pair_read" (defArgs sPair) (defBody sPair) (defScope sPair) .none kVPair dcPair pmPair anPair cdPair ctPair),slPair⟩) (cPair:PySem.W.codeIn K cdPair "pair_read" = true) (kPair:PySem.W.keepIn K (.ref fPair)=true)
  (aItem:PySem.W.nsIn K mainGlobals "item_read" = some (some (.ref fItem))) (lItem:K.lookup fItem=some ⟨ocItem,odItem,.func (PySem.W.fnOf "item_read" "item_read" (defArgs sItem) (defBody sItem) (defScope sItem) .none kVItem dcItem pmItem anItem cdItem ctItem),slItem⟩) (cItem:PySem.W.codeIn K cdItem "item_read" = true) (kItem:PySem.W.keepIn K (.ref fItem)=true)
  (aRd:PySem.W.nsIn K mainGlobals "slips_read" = some (some (.ref fRd))) (lRd:K.lookup fRd=some ⟨ocRd,odRd,.func (PySem.W.fnOf "slips_read" "slips_read" (defArgs sRd) (defBody sRd) (defScope sRd) .none kVRd dcRd pmRd anRd cdRd ctRd),slRd⟩) (cRd:PySem.W.codeIn K cdRd "slips_read" = true) (kRd:PySem.W.keepIn K (.ref fRd)=true)
  (aCell:PySem.W.nsIn K mainGlobals "_law_cell_at" = some (some (.ref fCell))) (lCell:K.lookup fCell=some ⟨ocCell,odCell,.func (PySem.W.fnOf "_law_cell_at" "_law_cell_at" (defArgs sCell) (defBody sCell) (defScope sCell) .none kVCell dcCell pmCell anCell cdCell ctCell),slCell⟩) (cCell:PySem.W.codeIn K cdCell "_law_cell_at" = true) (kCell:PySem.W.keepIn K (.ref fCell)=true)
  (aDraw:PySem.W.nsIn K mainGlobals "_law_draw" = some (some (.ref fDraw))) (lDraw:K.lookup fDraw=some ⟨ocDraw,odDraw,.func (PySem.W.fnOf "_law_draw" "_law_draw" (defArgs sDraw) (defBody sDraw) (defScope sDraw) .none kVDraw dcDraw pmDraw anDraw cdDraw ctDraw),slDraw⟩) (cDraw:PySem.W.codeIn K cdDraw "_law_draw" = true) (kDraw:PySem.W.keepIn K (.ref fDraw)=true)
  (aWordBy:PySem.W.nsIn K mainGlobals "_law_word_by" = some (some (.ref fWordBy))) (lWordBy:K.lookup fWordBy=some ⟨ocWordBy,odWordBy,.func (PySem.W.fnOf "_law_word_by" "_law_word_by" (defArgs sWordBy) (defBody sWordBy) (defScope sWordBy) .none kVWordBy dcWordBy pmWordBy anWordBy cdWordBy ctWordBy),slWordBy⟩) (cWordBy:PySem.W.codeIn K cdWordBy "_law_word_by" = true) (kWordBy:PySem.W.keepIn K (.ref fWordBy)=true)
  (aPool:PySem.W.nsIn K mainGlobals "_law_pool" = some (some (.ref fPool))) (lPool:K.lookup fPool=some ⟨ocPool,odPool,.func (PySem.W.fnOf "_law_pool" "_law_pool" (defArgs sPool) (defBody sPool) (defScope sPool) .none kVPool dcPool pmPool anPool cdPool ctPool),slPool⟩) (cPool:PySem.W.codeIn K cdPool "_law_pool" = true) (kPool:PySem.W.keepIn K (.ref fPool)=true)
  (aRowBy:PySem.W.nsIn K mainGlobals "_law_row_by" = some (some (.ref fRowBy))) (lRowBy:K.lookup fRowBy=some ⟨ocRowBy,odRowBy,.func (PySem.W.fnOf "_law_row_by" "_law_row_by" (defArgs sRowBy) (defBody sRowBy) (defScope sRowBy) .none kVRowBy dcRowBy pmRowBy anRowBy cdRowBy ctRowBy),slRowBy⟩) (cRowBy:PySem.W.codeIn K cdRowBy "_law_row_by" = true) (kRowBy:PySem.W.keepIn K (.ref fRowBy)=true)
  (aCopyBy:PySem.W.nsIn K mainGlobals "_law_copy_by" = some (some (.ref fCopyBy))) (lCopyBy:K.lookup fCopyBy=some ⟨ocCopyBy,odCopyBy,.func (PySem.W.fnOf "_law_copy_by" "_law_copy_by" (defArgs sCopyBy) (defBody sCopyBy) (defScope sCopyBy) .none kVCopyBy dcCopyBy pmCopyBy anCopyBy cdCopyBy ctCopyBy),slCopyBy⟩) (cCopyBy:PySem.W.codeIn K cdCopyBy "_law_copy_by" = true) (kCopyBy:PySem.W.keepIn K (.ref fCopyBy)=true)
  (aPricesBy:PySem.W.nsIn K mainGlobals "_law_prices_by" = some (some (.ref fPricesBy))) (lPricesBy:K.lookup fPricesBy=some ⟨ocPricesBy,odPricesBy,.func (PySem.W.fnOf "_law_prices_by" "_law_prices_by" (defArgs sPricesBy) (defBody sPricesBy) (defScope sPricesBy) .none kVPricesBy dcPricesBy pmPricesBy anPricesBy cdPricesBy ctPricesBy),slPricesBy⟩) (cPricesBy:PySem.W.codeIn K cdPricesBy "_law_prices_by" = true) (kPricesBy:PySem.W.keepIn K (.ref fPricesBy)=true)
  (aSame:PySem.W.nsIn K mainGlobals "_law_same" = some (some (.ref fSame))) (lSame:K.lookup fSame=some ⟨ocSame,odSame,.func (PySem.W.fnOf "_law_same" "_law_same" (defArgs sSame) (defBody sSame) (defScope sSame) .none kVSame dcSame pmSame anSame cdSame ctSame),slSame⟩) (cSame:PySem.W.codeIn K cdSame "_law_same" = true) (kSame:PySem.W.keepIn K (.ref fSame)=true)
  (aLAlk:PySem.W.nsIn K mainGlobals "_law_alike" = some (some (.ref fLAlk))) (lLAlk:K.lookup fLAlk=some ⟨ocLAlk,odLAlk,.func (PySem.W.fnOf "_law_alike" "_law_alike" (defArgs sLAlk) (defBody sLAlk) (defScope sLAlk) .none kVLAlk dcLAlk pmLAlk anLAlk cdLAlk ctLAlk),slLAlk⟩) (cLAlk:PySem.W.codeIn K cdLAlk "_law_alike" = true) (kLAlk:PySem.W.keepIn K (.ref fLAlk)=true)
  (aWB:PySem.W.nsIn K mainGlobals "_law_written_by" = some (some (.ref fWB))) (lWB:K.lookup fWB=some ⟨ocWB,odWB,.func (PySem.W.fnOf "_law_written_by" "_law_written_by" (defArgs sWB) (defBody sWB) (defScope sWB) .none kVWB dcWB pmWB anWB cdWB ctWB),slWB⟩) (cWB:PySem.W.codeIn K cdWB "_law_written_by" = true) (kWB:PySem.W.keepIn K (.ref fWB)=true)
  (aPO:PySem.W.nsIn K mainGlobals "_law_price_of" = some (some (.ref fPO))) (lPO:K.lookup fPO=some ⟨ocPO,odPO,.func (PySem.W.fnOf "_law_price_of" "_law_price_of" (defArgs sPO) (defBody sPO) (defScope sPO) .none kVPO dcPO pmPO anPO cdPO ctPO),slPO⟩) (cPO:PySem.W.codeIn K cdPO "_law_price_of" = true) (kPO:PySem.W.keepIn K (.ref fPO)=true)
  (aLWk:PySem.W.nsIn K mainGlobals "_law_walked" = some (some (.ref fLWk))) (lLWk:K.lookup fLWk=some ⟨ocLWk,odLWk,.func (PySem.W.fnOf "_law_walked" "_law_walked" (defArgs sLWk) (defBody sLWk) (defScope sLWk) .none kVLWk dcLWk pmLWk anLWk cdLWk ctLWk),slLWk⟩) (cLWk:PySem.W.codeIn K cdLWk "_law_walked" = true) (kLWk:PySem.W.keepIn K (.ref fLWk)=true)
  (aRight:PySem.W.nsIn K mainGlobals "_law_right" = some (some (.ref fRight))) (lRight:K.lookup fRight=some ⟨ocRight,odRight,.func (PySem.W.fnOf "_law_right" "_law_right" (defArgs sRight) (defBody sRight) (defScope sRight) .none kVRight dcRight pmRight anRight cdRight ctRight),slRight⟩) (cRight:PySem.W.codeIn K cdRight "_law_right" = true) (kRight:PySem.W.keepIn K (.ref fRight)=true)
  (aLaw:PySem.W.nsIn K mainGlobals "law" = some (some (.ref fLaw))) (lLaw:K.lookup fLaw=some ⟨ocLaw,odLaw,.func (PySem.W.fnOf "law" "law" (defArgs sLaw) (defBody sLaw) (defScope sLaw) .none kVLaw dcLaw pmLaw anLaw cdLaw ctLaw),slLaw⟩) (cLaw:PySem.W.codeIn K cdLaw "law" = true) (kLaw:PySem.W.keepIn K (.ref fLaw)=true)
  (gLETTERS:PySem.W.nsIn K mainGlobals "LETTERS" = some (some (.str (Str.ofString "abcdefghijklmnopqrstuvwxyz") tkLETTERS)))
  (gFIGURES:PySem.W.nsIn K mainGlobals "FIGURES" = some (some (.str (Str.ofString "0123456789") tkFIGURES)))
  (gMOST_LETTERS:PySem.W.nsIn K mainGlobals "MOST_LETTERS" = some (some (.int 12 tkMOST_LETTERS)))
  (gMOST_STEPS:PySem.W.nsIn K mainGlobals "MOST_STEPS" = some (some (.int 80 tkMOST_STEPS)))
  (gBARE_KINDS:PySem.W.nsIn K mainGlobals "BARE_KINDS" = some (some (.ref aB)))
  (gWORD_KINDS:PySem.W.nsIn K mainGlobals "WORD_KINDS" = some (some (.ref aW)))
  (gMOST_WORDS:PySem.W.nsIn K mainGlobals "MOST_WORDS" = some (some (.int 40 tkMOST_WORDS)))
  (gLIKE:PySem.W.nsIn K mainGlobals "LIKE" = some (some (.int 0 tkLIKE)))
  (gPRICE_PLACES:PySem.W.nsIn K mainGlobals "PRICE_PLACES" = some (some (.ref aD)))
  (gNoSlips:PySem.W.nsIn K mainGlobals "NoSlips" = some (some (.ref CNoSlips)))
  (ball:PySem.W.nsIn K mainGlobals "all" = some none)
  (blen:PySem.W.nsIn K mainGlobals "len" = some none)
  (brange:PySem.W.nsIn K mainGlobals "range" = some none)
  (bisinstance:PySem.W.nsIn K mainGlobals "isinstance" = some none)
  (btuple:PySem.W.nsIn K mainGlobals "tuple" = some none)
  (bstr:PySem.W.nsIn K mainGlobals "str" = some none)
  (bint:PySem.W.nsIn K mainGlobals "int" = some none)
  (bbool:PySem.W.nsIn K mainGlobals "bool" = some none)
  (bsum:PySem.W.nsIn K mainGlobals "sum" = some none)
  (bzip:PySem.W.nsIn K mainGlobals "zip" = some none)
  (bmin:PySem.W.nsIn K mainGlobals "min" = some none)
  (vNoSlips:PySem.W.excIn K CNoSlips [Value.type "ValueError",Value.type "Exception",Value.type "BaseException",Value.type "object"] "ValueError.__new__" = true)
  (tB:K.lookup aB=some ⟨.type "tuple",none,.seq #[.str (Str.ofString "lose") p1,.str (Str.ofString "twice") p2,.str (Str.ofString "swap") p3] nB,#[]⟩)
  (tW:K.lookup aW=some ⟨.type "tuple",none,.seq #[.str (Str.ofString "turn") p4,.str (Str.ofString "add") p5] nW,#[]⟩)
  (j1:PySem.W.kitOne K (.type "str") (.type "tuple")=some false)
  (j2:PySem.W.kitOne K (.type "int") (.type "tuple")=some false)
  (j3:PySem.W.kitOne K (.type "int") (.type "str")=some false)
  (i6:PySem.W.kitOne K (.type "int") (.type "bool")=some false)
  (j4:PySem.W.kitOne K (.type "NoneType") (.type "tuple")=some false)
  (dl:K.lookup aD=some ⟨.type "dict",none,.dict esD nD,#[]⟩)
  (dk:PySem.W.KeysLit w.params esD.toList)
  (d1:PySem.W.nsIn K aD "turn" = some (some (.int 1 q1)))
  (d2:PySem.W.nsIn K aD "lose" = some (some (.int 2 q2)))
  (d3:PySem.W.nsIn K aD "add" = some (some (.int 3 q3)))
  (d4:PySem.W.nsIn K aD "twice" = some (some (.int 4 q4)))
  (d5:PySem.W.nsIn K aD "swap" = some (some (.int 5 q5)))
  (d6:PySem.W.nsIn K aD "skip" = some (some (.int 6 q6)))
  : ∃ fd:FuncData,(∀ (s:Shared) (v:Value),BindsTo s fd ⟨[v],[]⟩ [("script",v)])/\∀ base:Heap,K.In base->base.Ns mainGlobals mg->FnOk l.prog w K mg base CX0 9 fa fd ["script"] (spLaw K):=by
 have e:=hfa.symm.trans (PySem.W.mg_of X G aLaw)
 cases e
 have FHas:=fun_mk (st:=sHas) lHas cHas kHas
 have b_Has:=FHas.binds (ps:=["text","signs"]) fun _ _ _ _ _ _ us hl=>match us,hl with | [_,_],_=>rfl
 have DHas:Dfn K mg "has_only" sHas fHas _ ["text","signs"]:=⟨FHas,PySem.W.mg_of X G aHas,b_Has⟩
 have FIsW:=fun_mk (st:=sIsW) lIsW cIsW kIsW
 have b_IsW:=FIsW.binds (ps:=["text"]) fun _ _ _ _ _ _ us hl=>match us,hl with | [_],_=>rfl
 have DIsW:Dfn K mg "is_word" sIsW fIsW _ ["text"]:=⟨FIsW,PySem.W.mg_of X G aIsW,b_IsW⟩
 have FLooks:=fun_mk (st:=sLooks) lLooks cLooks kLooks
 have b_Looks:=FLooks.binds (ps:=["one","two"]) fun _ _ _ _ _ _ us hl=>match us,hl with | [_,_],_=>rfl
 have DLooks:Dfn K mg "looks_alike" sLooks fLooks _ ["one","two"]:=⟨FLooks,PySem.W.mg_of X G aLooks,b_Looks⟩
 have FWr:=fun_mk (st:=sWr) lWr cWr kWr
 have b_Wr:=FWr.binds (ps:=["text"]) fun _ _ _ _ _ _ us hl=>match us,hl with | [_],_=>rfl
 have DWr:Dfn K mg "writes_number" sWr fWr _ ["text"]:=⟨FWr,PySem.W.mg_of X G aWr,b_Wr⟩
 have FNum:=fun_mk (st:=sNum) lNum cNum kNum
 have b_Num:=FNum.binds (ps:=["text","most"]) fun _ _ _ _ _ _ us hl=>match us,hl with | [_,_],_=>rfl
 have DNum:Dfn K mg "number_of" sNum fNum _ ["text","most"]:=⟨FNum,PySem.W.mg_of X G aNum,b_Num⟩
 have FSkF:=fun_mk (st:=sSkF) lSkF cSkF kSkF
 have b_SkF:=FSkF.binds (ps:=["elder","done","many"]) fun _ _ _ _ _ _ us hl=>match us,hl with | [_,_,_],_=>rfl
 have DSkF:Dfn K mg "skip_fits" sSkF fSkF _ ["elder","done","many"]:=⟨FSkF,PySem.W.mg_of X G aSkF,b_SkF⟩
 have FFits:=fun_mk (st:=sFits) lFits cFits kFits
 have b_Fits:=FFits.binds (ps:=["elder","done","last","step"]) fun _ _ _ _ _ _ us hl=>match us,hl with | [_,_,_,_],_=>rfl
 have DFits:Dfn K mg "step_fits" sFits fFits _ ["elder","done","last","step"]:=⟨FFits,PySem.W.mg_of X G aFits,b_Fits⟩
 have FWd:=fun_mk (st:=sWd) lWd cWd kWd
 have b_Wd:=FWd.binds (ps:=["step"]) fun _ _ _ _ _ _ us hl=>match us,hl with | [_],_=>rfl
 have DWd:Dfn K mg "words_done" sWd fWd _ ["step"]:=⟨FWd,PySem.W.mg_of X G aWd,b_Wd⟩
 have FWw:=fun_mk (st:=sWw) lWw cWw kWw
 have b_Ww:=FWw.binds (ps:=["elder","done","last","step"]) fun _ _ _ _ _ _ us hl=>match us,hl with | [_,_,_,_],_=>rfl
 have DWw:Dfn K mg "words_written" sWw fWw _ ["elder","done","last","step"]:=⟨FWw,PySem.W.mg_of X G aWw,b_Ww⟩
 have FAfter:=fun_mk (st:=sAfter) lAfter cAfter kAfter
 have b_After:=FAfter.binds (ps:=["elder","done","last","step"]) fun _ _ _ _ _ _ us hl=>match us,hl with | [_,_,_,_],_=>rfl
 have DAfter:Dfn K mg "step_after" sAfter fAfter _ ["elder","done","last","step"]:=⟨FAfter,PySem.W.mg_of X G aAfter,b_After⟩
 have FWalk:=fun_mk (st:=sWalk) lWalk cWalk kWalk
 have b_Walk:=FWalk.binds (ps:=["elder","steps"]) fun _ _ _ _ _ _ us hl=>match us,hl with | [_,_],_=>rfl
 have DWalk:Dfn K mg "steps_walked" sWalk fWalk _ ["elder","steps"]:=⟨FWalk,PySem.W.mg_of X G aWalk,b_Walk⟩
 have FCopy:=fun_mk (st:=sCopy) lCopy cCopy kCopy
 have b_Copy:=FCopy.binds (ps:=["elder","steps"]) fun _ _ _ _ _ _ us hl=>match us,hl with | [_,_],_=>rfl
 have DCopy:Dfn K mg "copy_made" sCopy fCopy _ ["elder","steps"]:=⟨FCopy,PySem.W.mg_of X G aCopy,b_Copy⟩
 have FPrice:=fun_mk (st:=sPrice) lPrice cPrice kPrice
 have b_Price:=FPrice.binds (ps:=["elder","done","step","prices"]) fun _ _ _ _ _ _ us hl=>match us,hl with | [_,_,_,_],_=>rfl
 have DPrice:Dfn K mg "step_price" sPrice fPrice _ ["elder","done","step","prices"]:=⟨FPrice,PySem.W.mg_of X G aPrice,b_Price⟩
 have FCost:=fun_mk (st:=sCost) lCost cCost kCost
 have b_Cost:=FCost.binds (ps:=["elder","steps","prices"]) fun _ _ _ _ _ _ us hl=>match us,hl with | [_,_,_],_=>rfl
 have DCost:Dfn K mg "slips_price" sCost fCost _ ["elder","steps","prices"]:=⟨FCost,PySem.W.mg_of X G aCost,b_Cost⟩
 have FSwW:=fun_mk (st:=sSwW) lSwW cSwW kSwW
 have b_SwW:=FSwW.binds (ps:=["elder","copy","i","j"]) fun _ _ _ _ _ _ us hl=>match us,hl with | [_,_,_,_],_=>rfl
 have DSwW:Dfn K mg "swap_writes" sSwW fSwW _ ["elder","copy","i","j"]:=⟨FSwW,PySem.W.mg_of X G aSwW,b_SwW⟩
 have FSkL:=fun_mk (st:=sSkL) lSkL cSkL kSkL
 have b_SkL:=FSkL.binds (ps:=["elder","i"]) fun _ _ _ _ _ _ us hl=>match us,hl with | [_,_],_=>rfl
 have DSkL:Dfn K mg "skip_lengths" sSkL fSkL _ ["elder","i"]:=⟨FSkL,PySem.W.mg_of X G aSkL,b_SkL⟩
 have FWays:=fun_mk (st:=sWays) lWays cWays kWays
 have b_Ways:=FWays.binds (ps:=["elder","copy","i","j"]) fun _ _ _ _ _ _ us hl=>match us,hl with | [_,_,_,_],_=>rfl
 have DWays:Dfn K mg "knot_ways" sWays fWays _ ["elder","copy","i","j"]:=⟨FWays,PySem.W.mg_of X G aWays,b_Ways⟩
 have FEmp:=fun_mk (st:=sEmp) lEmp cEmp kEmp
 have b_Emp:=FEmp.binds (ps:=["elder","copy"]) fun _ _ _ _ _ _ us hl=>match us,hl with | [_,_],_=>rfl
 have DEmp:Dfn K mg "empty_table" sEmp fEmp _ ["elder","copy"]:=⟨FEmp,PySem.W.mg_of X G aEmp,b_Emp⟩
 have FTld:=fun_mk (st:=sTld) lTld cTld kTld
 have b_Tld:=FTld.binds (ps:=["table"]) fun _ _ _ _ _ _ us hl=>match us,hl with | [_],_=>rfl
 have DTld:Dfn K mg "table_told" sTld fTld _ ["table"]:=⟨FTld,PySem.W.mg_of X G aTld,b_Tld⟩
 have FPtab:=fun_mk (st:=sPtab) lPtab cPtab kPtab
 have b_Ptab:=FPtab.binds (ps:=["elder","copy","prices"]) fun _ _ _ _ _ _ us hl=>match us,hl with | [_,_,_],_=>rfl
 have DPtab:Dfn K mg "price_table" sPtab fPtab _ ["elder","copy","prices"]:=⟨FPtab,PySem.W.mg_of X G aPtab,b_Ptab⟩
 have FRtab:=fun_mk (st:=sRtab) lRtab cRtab kRtab
 have b_Rtab:=FRtab.binds (ps:=["elder","copy","prices"]) fun _ _ _ _ _ _ us hl=>match us,hl with | [_,_,_],_=>rfl
 have DRtab:Dfn K mg "rest_table" sRtab fRtab _ ["elder","copy","prices"]:=⟨FRtab,PySem.W.mg_of X G aRtab,b_Rtab⟩
 have FCW:=fun_mk (st:=sCW) lCW cCW kCW
 have b_CW:=FCW.binds (ps:=["elder","copy","prices","rest","i","j"]) fun _ _ _ _ _ _ us hl=>match us,hl with | [_,_,_,_,_,_],_=>rfl
 have DCW:Dfn K mg "cheapest_ways" sCW fCW _ ["elder","copy","prices","rest","i","j"]:=⟨FCW,PySem.W.mg_of X G aCW,b_CW⟩
 have FFC:=fun_mk (st:=sFC) lFC cFC kFC
 have b_FC:=FFC.binds (ps:=["elder","copy","prices"]) fun _ _ _ _ _ _ us hl=>match us,hl with | [_,_,_],_=>rfl
 have DFC:Dfn K mg "first_cheapest" sFC fFC _ ["elder","copy","prices"]:=⟨FFC,PySem.W.mg_of X G aFC,b_FC⟩
 have FLs:=fun_mk (st:=sLs) lLs cLs kLs
 have b_Ls:=FLs.binds (ps:=["elder","copy","prices"]) fun _ _ _ _ _ _ us hl=>match us,hl with | [_,_,_],_=>rfl
 have DLs:Dfn K mg "least_slips" sLs fLs _ ["elder","copy","prices"]:=⟨FLs,PySem.W.mg_of X G aLs,b_Ls⟩
 have FKW:=fun_mk (st:=sKW) lKW cKW kKW
 have b_KW:=FKW.binds (ps:=["many"]) fun _ _ _ _ _ _ us hl=>match us,hl with | [_],_=>rfl
 have DKW:Dfn K mg "keeps_written" sKW fKW _ ["many"]:=⟨FKW,PySem.W.mg_of X G aKW,b_KW⟩
 have FSW:=fun_mk (st:=sSW) lSW cSW kSW
 have b_SW:=FSW.binds (ps:=["step"]) fun _ _ _ _ _ _ us hl=>match us,hl with | [_],_=>rfl
 have DSW:Dfn K mg "step_written" sSW fSW _ ["step"]:=⟨FSW,PySem.W.mg_of X G aSW,b_SW⟩
 have FWrt:=fun_mk (st:=sWrt) lWrt cWrt kWrt
 have b_Wrt:=FWrt.binds (ps:=["steps"]) fun _ _ _ _ _ _ us hl=>match us,hl with | [_],_=>rfl
 have DWrt:Dfn K mg "slips_written" sWrt fWrt _ ["steps"]:=⟨FWrt,PySem.W.mg_of X G aWrt,b_Wrt⟩
 have FCnt:=fun_mk (st:=sCnt) lCnt cCnt kCnt
 have b_Cnt:=FCnt.binds (ps:=["text"]) fun _ _ _ _ _ _ us hl=>match us,hl with | [_],_=>rfl
 have DCnt:Dfn K mg "count_read" sCnt fCnt _ ["text"]:=⟨FCnt,PySem.W.mg_of X G aCnt,b_Cnt⟩
 have FPair:=fun_mk (st:=sPair) lPair cPair kPair
 have b_Pair:=FPair.binds (ps:=["kind","said"]) fun _ _ _ _ _ _ us hl=>match us,hl with | [_,_],_=>rfl
 have DPair:Dfn K mg "pair_read" sPair fPair _ ["kind","said"]:=⟨FPair,PySem.W.mg_of X G aPair,b_Pair⟩
 have FItem:=fun_mk (st:=sItem) lItem cItem kItem
 have b_Item:=FItem.binds (ps:=["item"]) fun _ _ _ _ _ _ us hl=>match us,hl with | [_],_=>rfl
 have DItem:Dfn K mg "item_read" sItem fItem _ ["item"]:=⟨FItem,PySem.W.mg_of X G aItem,b_Item⟩
 have FRd:=fun_mk (st:=sRd) lRd cRd kRd
 have b_Rd:=FRd.binds (ps:=["text"]) fun _ _ _ _ _ _ us hl=>match us,hl with | [_],_=>rfl
 have DRd:Dfn K mg "slips_read" sRd fRd _ ["text"]:=⟨FRd,PySem.W.mg_of X G aRd,b_Rd⟩
 have FCell:=fun_mk (st:=sCell) lCell cCell kCell
 have b_Cell:=FCell.binds (ps:=["script","k"]) fun _ _ _ _ _ _ us hl=>match us,hl with | [_,_],_=>rfl
 have DCell:Dfn K mg "_law_cell_at" sCell fCell _ ["script","k"]:=⟨FCell,PySem.W.mg_of X G aCell,b_Cell⟩
 have FDraw:=fun_mk (st:=sDraw) lDraw cDraw kDraw
 have b_Draw:=FDraw.binds (ps:=["cell","k","many"]) fun _ _ _ _ _ _ us hl=>match us,hl with | [_,_,_],_=>rfl
 have DDraw:Dfn K mg "_law_draw" sDraw fDraw _ ["cell","k","many"]:=⟨FDraw,PySem.W.mg_of X G aDraw,b_Draw⟩
 have FWordBy:=fun_mk (st:=sWordBy) lWordBy cWordBy kWordBy
 have b_WordBy:=FWordBy.binds (ps:=["cell","k"]) fun _ _ _ _ _ _ us hl=>match us,hl with | [_,_],_=>rfl
 have DWordBy:Dfn K mg "_law_word_by" sWordBy fWordBy _ ["cell","k"]:=⟨FWordBy,PySem.W.mg_of X G aWordBy,b_WordBy⟩
 have FPool:=fun_mk (st:=sPool) lPool cPool kPool
 have b_Pool:=FPool.binds (ps:=["cell"]) fun _ _ _ _ _ _ us hl=>match us,hl with | [_],_=>rfl
 have DPool:Dfn K mg "_law_pool" sPool fPool _ ["cell"]:=⟨FPool,PySem.W.mg_of X G aPool,b_Pool⟩
 have FRowBy:=fun_mk (st:=sRowBy) lRowBy cRowBy kRowBy
 have b_RowBy:=FRowBy.binds (ps:=["cell","pool","most"]) fun _ _ _ _ _ _ us hl=>match us,hl with | [_,_,_],_=>rfl
 have DRowBy:Dfn K mg "_law_row_by" sRowBy fRowBy _ ["cell","pool","most"]:=⟨FRowBy,PySem.W.mg_of X G aRowBy,b_RowBy⟩
 have FCopyBy:=fun_mk (st:=sCopyBy) lCopyBy cCopyBy kCopyBy
 have b_CopyBy:=FCopyBy.binds (ps:=["base","cell","pool","most"]) fun _ _ _ _ _ _ us hl=>match us,hl with | [_,_,_,_],_=>rfl
 have DCopyBy:Dfn K mg "_law_copy_by" sCopyBy fCopyBy _ ["base","cell","pool","most"]:=⟨FCopyBy,PySem.W.mg_of X G aCopyBy,b_CopyBy⟩
 have FPricesBy:=fun_mk (st:=sPricesBy) lPricesBy cPricesBy kPricesBy
 have b_PricesBy:=FPricesBy.binds (ps:=["cell"]) fun _ _ _ _ _ _ us hl=>match us,hl with | [_],_=>rfl
 have DPricesBy:Dfn K mg "_law_prices_by" sPricesBy fPricesBy _ ["cell"]:=⟨FPricesBy,PySem.W.mg_of X G aPricesBy,b_PricesBy⟩
 have FSame:=fun_mk (st:=sSame) lSame cSame kSame
 have b_Same:=FSame.binds (ps:=["found","due"]) fun _ _ _ _ _ _ us hl=>match us,hl with | [_,_],_=>rfl
 have DSame:Dfn K mg "_law_same" sSame fSame _ ["found","due"]:=⟨FSame,PySem.W.mg_of X G aSame,b_Same⟩
 have FLAlk:=fun_mk (st:=sLAlk) lLAlk cLAlk kLAlk
 have b_LAlk:=FLAlk.binds (ps:=["one","two"]) fun _ _ _ _ _ _ us hl=>match us,hl with | [_,_],_=>rfl
 have DLAlk:Dfn K mg "_law_alike" sLAlk fLAlk _ ["one","two"]:=⟨FLAlk,PySem.W.mg_of X G aLAlk,b_LAlk⟩
 have FWB:=fun_mk (st:=sWB) lWB cWB kWB
 have b_WB:=FWB.binds (ps:=["elder","done","copy","step"]) fun _ _ _ _ _ _ us hl=>match us,hl with | [_,_,_,_],_=>rfl
 have DWB:Dfn K mg "_law_written_by" sWB fWB _ ["elder","done","copy","step"]:=⟨FWB,PySem.W.mg_of X G aWB,b_WB⟩
 have FPO:=fun_mk (st:=sPO) lPO cPO kPO
 have b_PO:=FPO.binds (ps:=["elder","done","step","prices"]) fun _ _ _ _ _ _ us hl=>match us,hl with | [_,_,_,_],_=>rfl
 have DPO:Dfn K mg "_law_price_of" sPO fPO _ ["elder","done","step","prices"]:=⟨FPO,PySem.W.mg_of X G aPO,b_PO⟩
 have FLWk:=fun_mk (st:=sLWk) lLWk cLWk kLWk
 have b_LWk:=FLWk.binds (ps:=["elder","steps","prices"]) fun _ _ _ _ _ _ us hl=>match us,hl with | [_,_,_],_=>rfl
 have DLWk:Dfn K mg "_law_walked" sLWk fLWk _ ["elder","steps","prices"]:=⟨FLWk,PySem.W.mg_of X G aLWk,b_LWk⟩
 have FRight:=fun_mk (st:=sRight) lRight cRight kRight
 have b_Right:=FRight.binds (ps:=["elder","copy","prices"]) fun _ _ _ _ _ _ us hl=>match us,hl with | [_,_,_],_=>rfl
 have DRight:Dfn K mg "_law_right" sRight fRight _ ["elder","copy","prices"]:=⟨FRight,PySem.W.mg_of X G aRight,b_Right⟩
 have FLaw:=fun_mk (st:=sLaw) lLaw cLaw kLaw
 have mLETTERS:=PySem.W.mg_of X G gLETTERS
 have mFIGURES:=PySem.W.mg_of X G gFIGURES
 have mMOST_LETTERS:=PySem.W.mg_of X G gMOST_LETTERS
 have mMOST_STEPS:=PySem.W.mg_of X G gMOST_STEPS
 have mBARE_KINDS:=PySem.W.mg_of X G gBARE_KINDS
 have mWORD_KINDS:=PySem.W.mg_of X G gWORD_KINDS
 have mMOST_WORDS:=PySem.W.mg_of X G gMOST_WORDS
 have mLIKE:=PySem.W.mg_of X G gLIKE
 have mPRICE_PLACES:=PySem.W.mg_of X G gPRICE_PLACES
 have mNoSlips:=PySem.W.mg_of X G gNoSlips
 have mall:=PySem.W.mg_none_of X G ball
 have mlen:=PySem.W.mg_none_of X G blen
 have mrange:=PySem.W.mg_none_of X G brange
 have misinstance:=PySem.W.mg_none_of X G bisinstance
 have mtuple:=PySem.W.mg_none_of X G btuple
 have mstr:=PySem.W.mg_none_of X G bstr
 have mint:=PySem.W.mg_none_of X G bint
 have mbool:=PySem.W.mg_none_of X G bbool
 have msum:=PySem.W.mg_none_of X G bsum
 have mzip:=PySem.W.mg_none_of X G bzip
 have mmin:=PySem.W.mg_none_of X G bmin
 exact ⟨PySem.W.fnOf "law" "law" (defArgs sLaw) (defBody sLaw) (defScope sLaw) .none kVLaw dcLaw pmLaw anLaw cdLaw ctLaw,fun s v=>.of_eq rfl,fun base _ _=>ok_all FLaw DHas DIsW DLooks DWr DNum DSkF DFits DWd DWw DAfter DWalk DCopy DPrice DCost DSwW DSkL DWays DEmp DTld DPtab DRtab DCW DFC DLs DKW DSW DWrt DCnt DPair DItem DRd DCell DDraw DWordBy DPool DRowBy DCopyBy DPricesBy DSame DLAlk DWB DPO DLWk DRight mall mlen mrange misinstance mtuple mstr mint mbool msum mzip mmin mLETTERS mFIGURES mMOST_LETTERS mMOST_STEPS mBARE_KINDS mWORD_KINDS mMOST_WORDS mLIKE mPRICE_PLACES mNoSlips vNoSlips (sqT_mod (ws:=[(Str.ofString "lose",p1),(Str.ofString "twice",p2),(Str.ofString "swap",p3)]) tB (by show 3<=1000;omega)) (sqT_mod (ws:=[(Str.ofString "turn",p4),(Str.ofString "add",p5)]) tW (by show 2<=1000;omega)) ⟨j1,j2,j3,i6,j4⟩ ⟨dl,dk,⟨_,d1⟩,⟨_,d2⟩,⟨_,d3⟩,⟨_,d4⟩,⟨_,d5⟩,⟨_,d6⟩⟩⟩
theorem walk {l:PySem.W.OpenLaw} {q:Program} {loose:List Str} {XP:(Str->Option Value)->Heap->Prop} {YP:World->Heap->Prop} {d:DefRec} {K:Params->PySem.W.Frag} (hn:l.most=some 63) (hdf:d.params.defaults=[])
  (hY:∀ (w:World) (h:Heap),YP w h->(K w.params).In h)
  (F:∀ (w:World) (mg:Str->Option Value) (fa:Addr) (h:Heap),(K w.params).In h->h.Ns mainGlobals mg->mg d.name=some (.ref fa) →
   ∃ fd:FuncData,(∀ (s:Shared) (u:Value),BindsTo s fd ⟨[u],[]⟩ [("script",u)])/\∀ base:Heap,(K w.params).In base->base.Ns mainGlobals mg->FnOk l.prog w (K w.params) mg base CX0 9 fa fd ["script"] (spLaw (K w.params))) :
  PySem.W.WalkO q loose XP YP l.row.toRowW d [] (fun f vs=>PySem.call f vs):=
 L3.walk_ofB (n:=63) (k:=9) (x := "script") (CX:=fun _=>CX0) (sp:=fun w=>spLaw (K w.params)) hn (by decide) hdf ⟨rfl,by decide,by decide⟩ hY F (fun _ _ a ns hl hb _ hS=>⟨a,ns,rfl,hS,hl,hb,fun _=>rfl⟩) fun _ _ _ _ _ z=>z
end K64
open PySem PySem.W PyProof.Rows
set_option maxRecDepth 100000 in
set_option maxHeartbeats 0 in
theorem PySem.Challenge.cw_vellum_k64_whole_slips_by_their_texts_holds : PySem.Challenge.rw_vellum_k64_whole_slips_by_their_texts.Holds := by
 w_on
 refine holds_law K64.said0 fun said=>?_
 refine holds_open (q:=K64.view) (loose:=[Str.ofString "VellumError",Str.ofString "NoSlips",Str.ofString "LETTERS",Str.ofString "FIGURES",Str.ofString "MOST_LETTERS",Str.ofString "MOST_WORDS",Str.ofString "has_only",Str.ofString "is_word",Str.ofString "looks_alike",Str.ofString "writes_number",Str.ofString "number_of",Str.ofString "LIKE",Str.ofString "PRICE_PLACES",Str.ofString "skip_fits",Str.ofString "step_fits",Str.ofString "words_done",Str.ofString "words_written",Str.ofString "step_after",Str.ofString "steps_walked",Str.ofString "copy_made",Str.ofString "step_price",Str.ofString "slips_price",Str.ofString "swap_writes",Str.ofString "skip_lengths",Str.ofString "knot_ways",Str.ofString "empty_table",Str.ofString "table_told",Str.ofString "price_table",Str.ofString "rest_table",Str.ofString "cheapest_ways",Str.ofString "first_cheapest",Str.ofString "least_slips",Str.ofString "MOST_STEPS",Str.ofString "BARE_KINDS",Str.ofString "WORD_KINDS",Str.ofString "keeps_written",Str.ofString "step_written",Str.ofString "slips_written",Str.ofString "count_read",Str.ofString "pair_read",Str.ofString "item_read",Str.ofString "slips_read",Str.ofString "_law_cell_at",Str.ofString "_law_draw",Str.ofString "_law_word_by",Str.ofString "_law_pool",Str.ofString "_law_row_by",Str.ofString "_law_copy_by",Str.ofString "_law_prices_by",Str.ofString "_law_same",Str.ofString "_law_alike",Str.ofString "_law_written_by",Str.ofString "_law_price_of",Str.ofString "_law_walked",Str.ofString "_law_right"]) (Xt:=(fun s=>PySem.W.xlAt K64.view [] s && PySem.W.recOk (PySem.W.RowW.records (PySem.W.OpenRow.toRowW PySem.Challenge.rw_vellum_k64_whole_slips_by_their_texts.row)) s)) (XP:=XL K64.view [])
  (YP:=Hook.says (PySem.W.kHook K64.hp K64.ad K64.ad_hp)) (N:=4164)
  K64.left (Hook.of _) (Hook.keeps _) (fun s e=>xl_of s (Bool.and_eq_true_iff.mp e).1)
  XL.keeps rfl rfl rfl
  (fun s e=>recFacts_of (Bool.and_eq_true_iff.mp e).2) rfl said
  (by decide +kernel)
  ⟨rfl,rfl,rfl,rfl,rfl,by decide +kernel⟩ ?hw ?hc
 case hw=>w_witness2
 k_fill
 refine K64.walk (l:=PySem.Challenge.rw_vellum_k64_whole_slips_by_their_texts) rfl rfl (fun w h Y=>PySem.W.kIn_of Y) ?F
 case F=>
  intro w mg fa h KX G hmg
  refine' K64.all_mk KX G hmg ?aHas ?lHas ?cHas ?kHas ?aIsW ?lIsW ?cIsW ?kIsW ?aLooks ?lLooks ?cLooks ?kLooks ?aWr ?lWr ?cWr ?kWr ?aNum ?lNum ?cNum ?kNum ?aSkF ?lSkF ?cSkF ?kSkF ?aFits ?lFits ?cFits ?kFits ?aWd ?lWd ?cWd ?kWd ?aWw ?lWw ?cWw ?kWw ?aAfter ?lAfter ?cAfter ?kAfter ?aWalk ?lWalk ?cWalk ?kWalk ?aCopy ?lCopy ?cCopy ?kCopy ?aPrice ?lPrice ?cPrice ?kPrice ?aCost ?lCost ?cCost ?kCost ?aSwW ?lSwW ?cSwW ?kSwW ?aSkL ?lSkL ?cSkL ?kSkL ?aWays ?lWays ?cWays ?kWays ?aEmp ?lEmp ?cEmp ?kEmp ?aTld ?lTld ?cTld ?kTld ?aPtab ?lPtab ?cPtab ?kPtab ?aRtab ?lRtab ?cRtab ?kRtab ?aCW ?lCW ?cCW ?kCW ?aFC ?lFC ?cFC ?kFC ?aLs ?lLs ?cLs ?kLs ?aKW ?lKW ?cKW ?kKW ?aSW ?lSW ?cSW ?kSW ?aWrt ?lWrt ?cWrt ?kWrt ?aCnt ?lCnt ?cCnt ?kCnt ?aPair ?lPair ?cPair ?kPair ?aItem ?lItem ?cItem ?kItem ?aRd ?lRd ?cRd ?kRd ?aCell ?lCell ?cCell ?kCell ?aDraw ?lDraw ?cDraw ?kDraw ?aWordBy ?lWordBy ?cWordBy ?kWordBy ?aPool ?lPool ?cPool ?kPool ?aRowBy ?lRowBy ?cRowBy ?kRowBy ?aCopyBy ?lCopyBy ?cCopyBy ?kCopyBy ?aPricesBy ?lPricesBy ?cPricesBy ?kPricesBy ?aSame ?lSame ?cSame ?kSame ?aLAlk ?lLAlk ?cLAlk ?kLAlk ?aWB ?lWB ?cWB ?kWB ?aPO ?lPO ?cPO ?kPO ?aLWk ?lLWk ?cLWk ?kLWk ?aRight ?lRight ?cRight ?kRight ?aLaw ?lLaw ?cLaw ?kLaw ?gLETTERS ?gFIGURES ?gMOST_LETTERS ?gMOST_STEPS ?gBARE_KINDS ?gWORD_KINDS ?gMOST_WORDS ?gLIKE ?gPRICE_PLACES ?gNoSlips ?ball ?blen ?brange ?bisinstance ?btuple ?bstr ?bint ?bbool ?bsum ?bzip ?bmin ?vNoSlips ?tB ?tW ?j1 ?j2 ?j3 ?i6 ?j4 ?dl ?dk ?d1 ?d2 ?d3 ?d4 ?d5 ?d6
  (case aHas=>k_is)
  (case lHas=>k_is)
  (case cHas=>k_is)
  (case kHas=>k_is)
  (case aIsW=>k_is)
  (case lIsW=>k_is)
  (case cIsW=>k_is)
  (case kIsW=>k_is)
  (case aLooks=>k_is)
  (case lLooks=>k_is)
  (case cLooks=>k_is)
  (case kLooks=>k_is)
  (case aWr=>k_is)
  (case lWr=>k_is)
  (case cWr=>k_is)
  (case kWr=>k_is)
  (case aNum=>k_is)
  (case lNum=>k_is)
  (case cNum=>k_is)
  (case kNum=>k_is)
  (case aSkF=>k_is)
  (case lSkF=>k_is)
  (case cSkF=>k_is)
  (case kSkF=>k_is)
  (case aFits=>k_is)
  (case lFits=>k_is)
  (case cFits=>k_is)
  (case kFits=>k_is)
  (case aWd=>k_is)
  (case lWd=>k_is)
  (case cWd=>k_is)
  (case kWd=>k_is)
  (case aWw=>k_is)
  (case lWw=>k_is)
  (case cWw=>k_is)
  (case kWw=>k_is)
  (case aAfter=>k_is)
  (case lAfter=>k_is)
  (case cAfter=>k_is)
  (case kAfter=>k_is)
  (case aWalk=>k_is)
  (case lWalk=>k_is)
  (case cWalk=>k_is)
  (case kWalk=>k_is)
  (case aCopy=>k_is)
  (case lCopy=>k_is)
  (case cCopy=>k_is)
  (case kCopy=>k_is)
  (case aPrice=>k_is)
  (case lPrice=>k_is)
  (case cPrice=>k_is)
  (case kPrice=>k_is)
  (case aCost=>k_is)
  (case lCost=>k_is)
  (case cCost=>k_is)
  (case kCost=>k_is)
  (case aSwW=>k_is)
  (case lSwW=>k_is)
  (case cSwW=>k_is)
  (case kSwW=>k_is)
  (case aSkL=>k_is)
  (case lSkL=>k_is)
  (case cSkL=>k_is)
  (case kSkL=>k_is)
  (case aWays=>k_is)
  (case lWays=>k_is)
  (case cWays=>k_is)
  (case kWays=>k_is)
  (case aEmp=>k_is)
  (case lEmp=>k_is)
  (case cEmp=>k_is)
  (case kEmp=>k_is)
  (case aTld=>k_is)
  (case lTld=>k_is)
  (case cTld=>k_is)
  (case kTld=>k_is)
  (case aPtab=>k_is)
  (case lPtab=>k_is)
  (case cPtab=>k_is)
  (case kPtab=>k_is)
  (case aRtab=>k_is)
  (case lRtab=>k_is)
  (case cRtab=>k_is)
  (case kRtab=>k_is)
  (case aCW=>k_is)
  (case lCW=>k_is)
  (case cCW=>k_is)
  (case kCW=>k_is)
  (case aFC=>k_is)
  (case lFC=>k_is)
  (case cFC=>k_is)
  (case kFC=>k_is)
  (case aLs=>k_is)
  (case lLs=>k_is)
  (case cLs=>k_is)
  (case kLs=>k_is)
  (case aKW=>k_is)
  (case lKW=>k_is)
  (case cKW=>k_is)
  (case kKW=>k_is)
  (case aSW=>k_is)
  (case lSW=>k_is)
  (case cSW=>k_is)
  (case kSW=>k_is)
  (case aWrt=>k_is)
  (case lWrt=>k_is)
  (case cWrt=>k_is)
  (case kWrt=>k_is)
  (case aCnt=>k_is)
  (case lCnt=>k_is)
  (case cCnt=>k_is)
  (case kCnt=>k_is)
  (case aPair=>k_is)
  (case lPair=>k_is)
  (case cPair=>k_is)
  (case kPair=>k_is)
  (case aItem=>k_is)
  (case lItem=>k_is)
  (case cItem=>k_is)
  (case kItem=>k_is)
  (case aRd=>k_is)
  (case lRd=>k_is)
  (case cRd=>k_is)
  (case kRd=>k_is)
  (case aCell=>k_is)
  (case lCell=>k_is)
  (case cCell=>k_is)
  (case kCell=>k_is)
  (case aDraw=>k_is)
  (case lDraw=>k_is)
  (case cDraw=>k_is)
  (case kDraw=>k_is)
  (case aWordBy=>k_is)
  (case lWordBy=>k_is)
  (case cWordBy=>k_is)
  (case kWordBy=>k_is)
  (case aPool=>k_is)
  (case lPool=>k_is)
  (case cPool=>k_is)
  (case kPool=>k_is)
  (case aRowBy=>k_is)
  (case lRowBy=>k_is)
  (case cRowBy=>k_is)
  (case kRowBy=>k_is)
  (case aCopyBy=>k_is)
  (case lCopyBy=>k_is)
  (case cCopyBy=>k_is)
  (case kCopyBy=>k_is)
  (case aPricesBy=>k_is)
  (case lPricesBy=>k_is)
  (case cPricesBy=>k_is)
  (case kPricesBy=>k_is)
  (case aSame=>k_is)
  (case lSame=>k_is)
  (case cSame=>k_is)
  (case kSame=>k_is)
  (case aLAlk=>k_is)
  (case lLAlk=>k_is)
  (case cLAlk=>k_is)
  (case kLAlk=>k_is)
  (case aWB=>k_is)
  (case lWB=>k_is)
  (case cWB=>k_is)
  (case kWB=>k_is)
  (case aPO=>k_is)
  (case lPO=>k_is)
  (case cPO=>k_is)
  (case kPO=>k_is)
  (case aLWk=>k_is)
  (case lLWk=>k_is)
  (case cLWk=>k_is)
  (case kLWk=>k_is)
  (case aRight=>k_is)
  (case lRight=>k_is)
  (case cRight=>k_is)
  (case kRight=>k_is)
  (case aLaw=>k_is)
  (case lLaw=>k_is)
  (case cLaw=>k_is)
  (case kLaw=>k_is)
  (case gLETTERS=>k_is)
  (case gFIGURES=>k_is)
  (case gMOST_LETTERS=>k_is)
  (case gMOST_STEPS=>k_is)
  (case gBARE_KINDS=>k_is)
  (case gWORD_KINDS=>k_is)
  (case gMOST_WORDS=>k_is)
  (case gLIKE=>k_is)
  (case gPRICE_PLACES=>k_is)
  (case gNoSlips=>k_is)
  (case ball=>k_is)
  (case blen=>k_is)
  (case brange=>k_is)
  (case bisinstance=>k_is)
  (case btuple=>k_is)
  (case bstr=>k_is)
  (case bint=>k_is)
  (case bbool=>k_is)
  (case bsum=>k_is)
  (case bzip=>k_is)
  (case bmin=>k_is)
  (case vNoSlips=>k_exc)
  (case tB=>k_is)
  (case tW=>k_is)
  (case j1=>kit_is)
  (case j2=>kit_is)
  (case j3=>kit_is)
  (case i6=>kit_is)
  (case j4=>kit_is)
  (case dl=>k_is)
  (case dk=>k_keys)
  (case d1=>k_is)
  (case d2=>k_is)
  (case d3=>k_is)
  (case d4=>k_is)
  (case d5=>k_is)
  (case d6=>k_is)
