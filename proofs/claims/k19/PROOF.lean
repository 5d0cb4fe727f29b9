import PyProof.Rows.All
import Wide.All
import OpenK.AllK
import Wide.FinOn
import Lean
import PyProof.EqAt
import PyProof.EqKinds
import PyProof.TupleCall
import PyProof.ListMulRoad
import PyProof.Rows.ListMul
import PySem.Challenge.RW_vellum_k19_whole_which_papers_are_taken
set_option Elab.async false
set_option linter.all false
set_option maxRecDepth 100000
set_option maxHeartbeats 4000000
namespace L2
open PySem PySem.Spec PyProof.Rows
def defArgs (s:Stmt):Arguments:=match s with
 | .FunctionDef _ a _ _ _ _ _ _ _ _=>a
 | _=>{ posonlyargs:=[],args:=[],vararg:=none,kwonlyargs:=[],kw_defaults:=[],kwarg:=none,defaults:=[] }
def defBody (s:Stmt):List Stmt:=match s with
 | .FunctionDef _ _ b _ _ _ _ _ _ _=>b
 | _=>[]
def defScope (s:Stmt):Scope:=match s with
 | .FunctionDef _ _ _ _ _ _ sc _ _ _=>sc
 | _=>{ kind:=.function,names:=[],isGenerator:=false,isCoroutine:=false }
end L2
namespace K19
open PySem PySem.Spec PyProof.Rows L2
def top (i:Nat):Stmt:=PySem.Challenge.pw_vellum_k19_whole_which_papers_are_taken.main.body.getD i (.Pass ⟨0,0,0,0⟩)
abbrev sLooks:Stmt:=top 5
abbrev sSkF:Stmt:=top 9
abbrev sFits:Stmt:=top 10
abbrev sWd:Stmt:=top 11
abbrev sWw:Stmt:=top 12
abbrev sAfter:Stmt:=top 13
abbrev sWalk:Stmt:=top 14
abbrev sCopy:Stmt:=top 15
abbrev sPrice:Stmt:=top 16
abbrev sCost:Stmt:=top 17
abbrev sSwW:Stmt:=top 19
abbrev sSkL:Stmt:=top 20
abbrev sWays:Stmt:=top 21
abbrev sStS:Stmt:=top 23
abbrev sShape:Stmt:=top 24
abbrev sKnS:Stmt:=top 25
abbrev sTbS:Stmt:=top 26
abbrev sStand:Stmt:=top 27
abbrev sCell:Stmt:=top 29
abbrev sStir:Stmt:=top 30
abbrev sNext:Stmt:=top 31
abbrev sWord:Stmt:=top 32
abbrev sPrices:Stmt:=top 33
abbrev sEye:Stmt:=top 34
abbrev sSlip:Stmt:=top 35
abbrev sPair:Stmt:=top 36
abbrev sMP:Stmt:=top 37
abbrev sLSteps:Stmt:=top 38
abbrev sLAlk:Stmt:=top 39
abbrev sLPrice:Stmt:=top 40
abbrev sEnd:Stmt:=top 41
abbrev sArms:Stmt:=top 42
abbrev sKnots:Stmt:=top 43
abbrev sLRest:Stmt:=top 44
abbrev sLTold:Stmt:=top 45
abbrev sLTab:Stmt:=top 46
abbrev sDoes:Stmt:=top 47
abbrev sMade:Stmt:=top 48
abbrev sLBd:Stmt:=top 49
abbrev sLSt:Stmt:=top 50
abbrev sForm:Stmt:=top 51
abbrev sChg:Stmt:=top 52
abbrev sLast:Stmt:=top 53
abbrev sSSp:Stmt:=top 54
abbrev sTSp:Stmt:=top 55
abbrev sPaper:Stmt:=top 56
abbrev sLaw:Stmt:=top 57
noncomputable abbrev en (P:Params) (z:Str) (t:Nat) (v:Value):DictEntry:=⟨PyData.keyHash P z,.str z t,v⟩
noncomputable abbrev fn (n:String) (s:Stmt) (m:String) (t c:Nat):Obj:=⟨.type "function",none,.func (PySem.W.fnOf (Str.ofString n) (Str.ofString n) (defArgs s) (defBody s) (defScope s) .none .none .none (.str (Str.ofString m) t) none (.ref c) .none),#[]⟩
noncomputable abbrev co (n:String) (t u v a b c r l q y m k z:Nat):Obj:={ cls:=.type "code",data:=.fields #[.str (Str.ofString n) t,.str (Str.ofString n) u,.str (Str.ofString "/claim/cut.py") v,.int a 0,.int b 0,.int 0 0,.int 0 0,.int c 0,.ref r,.bool true,.int l 0,.ref q,.none,.none,.none,.ref y,.int m 0,.int k 0,.str (Str.ofString "/claim/cut.py") z] }
noncomputable def hp:Params->PySem.W.Frag:=fun P=>
 (nat_lit 2,({ cls:=.none,data:=.dict #[] }:Obj)) ::
 (nat_lit 3,({ cls:=.type "dict",data:=.dict #[en P (Str.ofString "__name__") 165 (.str (Str.ofString "law_vellum_k19_whole_which_papers_are_taken") 427),en P (Str.ofString "__doc__") 166 (.none),en P (Str.ofString "__package__") 167 (.none),en P (Str.ofString "__loader__") 168 (.builtin "__main__.__loader__#opaque"),en P (Str.ofString "__spec__") 169 (.none),en P (Str.ofString "__annotations__") 170 (.ref 6),en P (Str.ofString "__builtins__") 171 (.ref 4),en P (Str.ofString "__file__") 173 (.str (Str.ofString "/claim/cut.py") 172),en P (Str.ofString "__cached__") 174 (.none),en P (Str.ofString "VellumError") 206 (.ref 24),en P (Str.ofString "NoSlips") 222 (.ref 37),en P (Str.ofString "MOST_WORDS") 226 (.int 40 225),en P (Str.ofString "looks_alike") 232 (.ref 44),en P (Str.ofString "LIKE") 236 (.int 0 235),en P (Str.ofString "PRICE_PLACES") 255 (.ref 45),en P (Str.ofString "skip_fits") 264 (.ref 52),en P (Str.ofString "step_fits") 275 (.ref 59),en P (Str.ofString "words_done") 283 (.ref 66),en P (Str.ofString "words_written") 294 (.ref 73),en P (Str.ofString "step_after") 304 (.ref 80),en P (Str.ofString "steps_walked") 318 (.ref 87),en P (Str.ofString "copy_made") 326 (.ref 94),en P (Str.ofString "step_price") 337 (.ref 101),en P (Str.ofString "slips_price") 343 (.ref 106),en P (Str.ofString "swap_writes") 355 (.ref 113),en P (Str.ofString "skip_lengths") 361 (.ref 118),en P (Str.ofString "knot_ways") 367 (.ref 123),en P (Str.ofString "steps_stand") 380 (.ref 130),en P (Str.ofString "has_shape") 386 (.ref 135),en P (Str.ofString "knot_stands") 401 (.ref 142),en P (Str.ofString "table_stands") 414 (.ref 149),en P (Str.ofString "slips_stand") 426 (.ref 156),en P (Str.ofString "_law_cell_at") 436 (.ref 163),en P (Str.ofString "_law_stir") 443 (.ref 170),en P (Str.ofString "_law_next") 450 (.ref 177),en P (Str.ofString "_law_word") 464 (.ref 184),en P (Str.ofString "_law_prices") 475 (.ref 191),en P (Str.ofString "_law_eye") 481 (.ref 196),en P (Str.ofString "_law_slip") 495 (.ref 203),en P (Str.ofString "_law_pair") 511 (.ref 210),en P (Str.ofString "_law_made_pairs") 524 (.ref 217),en P (Str.ofString "_law_steps") 539 (.ref 224),en P (Str.ofString "_law_alike") 545 (.ref 229),en P (Str.ofString "_law_price") 555 (.ref 236),en P (Str.ofString "_law_end") 565 (.ref 243),en P (Str.ofString "_law_arms") 578 (.ref 250),en P (Str.ofString "_law_knots") 589 (.ref 257),en P (Str.ofString "_law_rest") 595 (.ref 262),en P (Str.ofString "_law_told") 601 (.ref 267),en P (Str.ofString "_law_table") 607 (.ref 272),en P (Str.ofString "_law_does") 618 (.ref 279),en P (Str.ofString "_law_made") 632 (.ref 286),en P (Str.ofString "_law_bounds") 647 (.ref 293),en P (Str.ofString "_law_stands") 653 (.ref 298),en P (Str.ofString "_law_form") 663 (.ref 305),en P (Str.ofString "_law_changed") 675 (.ref 312),en P (Str.ofString "_law_last") 683 (.ref 319),en P (Str.ofString "_law_steps_spoilt") 695 (.ref 326),en P (Str.ofString "_law_table_spoilt") 701 (.ref 331),en P (Str.ofString "_law_paper") 707 (.ref 336),en P (Str.ofString "law") 720 (.ref 343)] 61 }:Obj)) ::
 (nat_lit 23,({ cls:=.type "dict",data:=.dict #[en P (Str.ofString "__module__") 196 (.str (Str.ofString "vellum.errors") 187),en P (Str.ofString "__firstlineno__") 200 (.int 2 199),en P (Str.ofString "__static_attributes__") 201 (.ref 22),en P (Str.ofString "__weakref__") 203 (.ref 25),en P (Str.ofString "__doc__") 204 (.none)] 3 }:Obj)) ::
 (nat_lit 24,({ cls:=.type "type",data:=.cls { name:=Str.ofString "VellumError",bases:=[.type "ValueError"],mro:=[.ref 24,.type "ValueError",.type "Exception",.type "BaseException",.type "object"],ns:=23,qualname:=Str.ofString "VellumError",subclasses:=[.ref 37] },slots:=#[Option.some (.ref 15),none,Option.some (.str (Str.ofString "VellumError") 189),Option.some (.str (Str.ofString "VellumError") 197),Option.some (.builtin "ValueError.__new__"),Option.some (.bool true)] }:Obj)) ::
 (nat_lit 25,({ cls:=.type "getset_descriptor",data:=.fields #[.str (Str.ofString "__weakref__") 202,.ref 24,.builtin "ExceptionGroup.__weakref__",.none] }:Obj)) ::
 (nat_lit 36,({ cls:=.type "dict",data:=.dict #[en P (Str.ofString "__module__") 214 (.str (Str.ofString "vellum.errors") 187),en P (Str.ofString "__firstlineno__") 218 (.int 4 217),en P (Str.ofString "__static_attributes__") 219 (.ref 35),en P (Str.ofString "__doc__") 220 (.none)] 2 }:Obj)) ::
 (nat_lit 37,({ cls:=.type "type",data:=.cls { name:=Str.ofString "NoSlips",bases:=[.ref 24],mro:=[.ref 37,.ref 24,.type "ValueError",.type "Exception",.type "BaseException",.type "object"],ns:=36,qualname:=Str.ofString "NoSlips" },slots:=#[Option.some (.ref 28),none,Option.some (.str (Str.ofString "NoSlips") 207),Option.some (.str (Str.ofString "NoSlips") 215),Option.some (.builtin "ValueError.__new__"),Option.some (.bool true)] }:Obj)) ::
 (nat_lit 43,(co "looks_alike" 227 228 229 8 2 3 40 181 41 42 230 8 231:Obj)) ::
 (nat_lit 44,(fn "looks_alike" sLooks "vellum.words" 223 43:Obj)) ::
 (nat_lit 45,({ cls:=.type "dict",data:=.dict #[en P (Str.ofString "turn") 237 (.int 1 238),en P (Str.ofString "lose") 239 (.int 2 240),en P (Str.ofString "add") 241 (.int 3 242),en P (Str.ofString "twice") 243 (.int 4 244),en P (Str.ofString "swap") 245 (.int 5 246),en P (Str.ofString "skip") 247 (.int 6 248)] 6 }:Obj)) ::
 (nat_lit 51,({ cls:=.type "code",data:=.fields #[.str (Str.ofString "skip_fits") 256,.str (Str.ofString "skip_fits") 257,.str (Str.ofString "/claim/cut.py") 258,.int 16 0,.int 3 0,.int 0 0,.int 0 0,.int 3 0,.ref 46,.bool true,.int 181 0,.ref 47,.none,.ref 48,.ref 49,.ref 50,.int 262 0,.int 16 0,.str (Str.ofString "/claim/cut.py") 263] }:Obj)) ::
 (nat_lit 52,(fn "skip_fits" sSkF "vellum.slips" 233 51:Obj)) ::
 (nat_lit 58,({ cls:=.type "code",data:=.fields #[.str (Str.ofString "step_fits") 265,.str (Str.ofString "step_fits") 266,.str (Str.ofString "/claim/cut.py") 267,.int 20 0,.int 4 0,.int 0 0,.int 0 0,.int 3 0,.ref 53,.bool true,.int 181 0,.ref 54,.none,.ref 55,.ref 56,.ref 57,.int 273 0,.int 20 0,.str (Str.ofString "/claim/cut.py") 274] }:Obj)) ::
 (nat_lit 59,(fn "step_fits" sFits "vellum.slips" 233 58:Obj)) ::
 (nat_lit 65,({ cls:=.type "code",data:=.fields #[.str (Str.ofString "words_done") 276,.str (Str.ofString "words_done") 277,.str (Str.ofString "/claim/cut.py") 278,.int 33 0,.int 1 0,.int 0 0,.int 0 0,.int 3 0,.ref 60,.bool true,.int 181 0,.ref 61,.none,.ref 62,.ref 63,.ref 64,.int 281 0,.int 33 0,.str (Str.ofString "/claim/cut.py") 282] }:Obj)) ::
 (nat_lit 66,(fn "words_done" sWd "vellum.slips" 233 65:Obj)) ::
 (nat_lit 72,({ cls:=.type "code",data:=.fields #[.str (Str.ofString "words_written") 284,.str (Str.ofString "words_written") 285,.str (Str.ofString "/claim/cut.py") 286,.int 42 0,.int 4 0,.int 0 0,.int 0 0,.int 3 0,.ref 67,.bool true,.int 181 0,.ref 68,.none,.ref 69,.ref 70,.ref 71,.int 292 0,.int 42 0,.str (Str.ofString "/claim/cut.py") 293] }:Obj)) ::
 (nat_lit 73,(fn "words_written" sWw "vellum.slips" 233 72:Obj)) ::
 (nat_lit 79,({ cls:=.type "code",data:=.fields #[.str (Str.ofString "step_after") 295,.str (Str.ofString "step_after") 296,.str (Str.ofString "/claim/cut.py") 297,.int 53 0,.int 4 0,.int 0 0,.int 0 0,.int 3 0,.ref 74,.bool true,.int 181 0,.ref 75,.none,.ref 76,.ref 77,.ref 78,.int 302 0,.int 53 0,.str (Str.ofString "/claim/cut.py") 303] }:Obj)) ::
 (nat_lit 80,(fn "step_after" sAfter "vellum.slips" 233 79:Obj)) ::
 (nat_lit 86,({ cls:=.type "code",data:=.fields #[.str (Str.ofString "steps_walked") 305,.str (Str.ofString "steps_walked") 306,.str (Str.ofString "/claim/cut.py") 307,.int 57 0,.int 2 0,.int 0 0,.int 0 0,.int 3 0,.ref 81,.bool true,.int 181 0,.ref 82,.none,.ref 83,.ref 84,.ref 85,.int 316 0,.int 57 0,.str (Str.ofString "/claim/cut.py") 317] }:Obj)) ::
 (nat_lit 87,(fn "steps_walked" sWalk "vellum.slips" 233 86:Obj)) ::
 (nat_lit 93,({ cls:=.type "code",data:=.fields #[.str (Str.ofString "copy_made") 319,.str (Str.ofString "copy_made") 320,.str (Str.ofString "/claim/cut.py") 321,.int 72 0,.int 2 0,.int 0 0,.int 0 0,.int 3 0,.ref 88,.bool true,.int 181 0,.ref 89,.none,.ref 90,.ref 91,.ref 92,.int 324 0,.int 72 0,.str (Str.ofString "/claim/cut.py") 325] }:Obj)) ::
 (nat_lit 94,(fn "copy_made" sCopy "vellum.slips" 233 93:Obj)) ::
 (nat_lit 100,({ cls:=.type "code",data:=.fields #[.str (Str.ofString "step_price") 327,.str (Str.ofString "step_price") 328,.str (Str.ofString "/claim/cut.py") 329,.int 74 0,.int 4 0,.int 0 0,.int 0 0,.int 3 0,.ref 95,.bool true,.int 181 0,.ref 96,.none,.ref 97,.ref 98,.ref 99,.int 335 0,.int 74 0,.str (Str.ofString "/claim/cut.py") 336] }:Obj)) ::
 (nat_lit 101,(fn "step_price" sPrice "vellum.slips" 233 100:Obj)) ::
 (nat_lit 105,(co "slips_price" 338 339 340 81 3 3 102 181 103 104 341 81 342:Obj)) ::
 (nat_lit 106,(fn "slips_price" sCost "vellum.slips" 233 105:Obj)) ::
 (nat_lit 112,({ cls:=.type "code",data:=.fields #[.str (Str.ofString "swap_writes") 346,.str (Str.ofString "swap_writes") 347,.str (Str.ofString "/claim/cut.py") 348,.int 85 0,.int 4 0,.int 0 0,.int 0 0,.int 3 0,.ref 107,.bool true,.int 181 0,.ref 108,.none,.ref 109,.ref 110,.ref 111,.int 353 0,.int 85 0,.str (Str.ofString "/claim/cut.py") 354] }:Obj)) ::
 (nat_lit 113,(fn "swap_writes" sSwW "vellum.grid" 344 112:Obj)) ::
 (nat_lit 117,(co "skip_lengths" 356 357 358 89 2 3 114 181 115 116 359 89 360:Obj)) ::
 (nat_lit 118,(fn "skip_lengths" sSkL "vellum.grid" 344 117:Obj)) ::
 (nat_lit 122,(co "knot_ways" 362 363 364 93 4 3 119 181 120 121 365 93 366:Obj)) ::
 (nat_lit 123,(fn "knot_ways" sWays "vellum.grid" 344 122:Obj)) ::
 (nat_lit 129,({ cls:=.type "code",data:=.fields #[.str (Str.ofString "steps_stand") 370,.str (Str.ofString "steps_stand") 371,.str (Str.ofString "/claim/cut.py") 372,.int 109 0,.int 5 0,.int 0 0,.int 0 0,.int 3 0,.ref 124,.bool true,.int 181 0,.ref 125,.none,.ref 126,.ref 127,.ref 128,.int 378 0,.int 109 0,.str (Str.ofString "/claim/cut.py") 379] }:Obj)) ::
 (nat_lit 130,(fn "steps_stand" sStS "vellum.gridexam" 368 129:Obj)) ::
 (nat_lit 134,(co "has_shape" 381 382 383 114 3 3 131 181 132 133 384 114 385:Obj)) ::
 (nat_lit 135,(fn "has_shape" sShape "vellum.gridexam" 368 134:Obj)) ::
 (nat_lit 141,({ cls:=.type "code",data:=.fields #[.str (Str.ofString "knot_stands") 387,.str (Str.ofString "knot_stands") 388,.str (Str.ofString "/claim/cut.py") 389,.int 116 0,.int 6 0,.int 0 0,.int 0 0,.int 3 0,.ref 136,.bool true,.int 181 0,.ref 137,.none,.ref 138,.ref 139,.ref 140,.int 399 0,.int 116 0,.str (Str.ofString "/claim/cut.py") 400] }:Obj)) ::
 (nat_lit 142,(fn "knot_stands" sKnS "vellum.gridexam" 368 141:Obj)) ::
 (nat_lit 148,({ cls:=.type "code",data:=.fields #[.str (Str.ofString "table_stands") 402,.str (Str.ofString "table_stands") 403,.str (Str.ofString "/claim/cut.py") 404,.int 121 0,.int 5 0,.int 0 0,.int 0 0,.int 3 0,.ref 143,.bool true,.int 181 0,.ref 144,.none,.ref 145,.ref 146,.ref 147,.int 412 0,.int 121 0,.str (Str.ofString "/claim/cut.py") 413] }:Obj)) ::
 (nat_lit 149,(fn "table_stands" sTbS "vellum.gridexam" 368 148:Obj)) ::
 (nat_lit 155,({ cls:=.type "code",data:=.fields #[.str (Str.ofString "slips_stand") 415,.str (Str.ofString "slips_stand") 416,.str (Str.ofString "/claim/cut.py") 417,.int 131 0,.int 6 0,.int 0 0,.int 0 0,.int 3 0,.ref 150,.bool true,.int 181 0,.ref 151,.none,.ref 152,.ref 153,.ref 154,.int 424 0,.int 131 0,.str (Str.ofString "/claim/cut.py") 425] }:Obj)) ::
 (nat_lit 156,(fn "slips_stand" sStand "vellum.gridexam" 368 155:Obj)) ::
 (nat_lit 162,({ cls:=.type "code",data:=.fields #[.str (Str.ofString "_law_cell_at") 429,.str (Str.ofString "_law_cell_at") 430,.str (Str.ofString "/claim/cut.py") 431,.int 134 0,.int 2 0,.int 0 0,.int 0 0,.int 3 0,.ref 157,.bool true,.int 181 0,.ref 158,.none,.ref 159,.ref 160,.ref 161,.int 434 0,.int 134 0,.str (Str.ofString "/claim/cut.py") 435] }:Obj)) ::
 (nat_lit 163,(fn "_law_cell_at" sCell "law_vellum_k19_whole_which_papers_are_taken" 427 162:Obj)) ::
 (nat_lit 169,({ cls:=.type "code",data:=.fields #[.str (Str.ofString "_law_stir") 437,.str (Str.ofString "_law_stir") 438,.str (Str.ofString "/claim/cut.py") 439,.int 138 0,.int 1 0,.int 0 0,.int 0 0,.int 3 0,.ref 164,.bool true,.int 181 0,.ref 165,.none,.ref 166,.ref 167,.ref 168,.int 441 0,.int 138 0,.str (Str.ofString "/claim/cut.py") 442] }:Obj)) ::
 (nat_lit 170,(fn "_law_stir" sStir "law_vellum_k19_whole_which_papers_are_taken" 427 169:Obj)) ::
 (nat_lit 176,({ cls:=.type "code",data:=.fields #[.str (Str.ofString "_law_next") 444,.str (Str.ofString "_law_next") 445,.str (Str.ofString "/claim/cut.py") 446,.int 140 0,.int 1 0,.int 0 0,.int 0 0,.int 3 0,.ref 171,.bool true,.int 181 0,.ref 172,.none,.ref 173,.ref 174,.ref 175,.int 448 0,.int 140 0,.str (Str.ofString "/claim/cut.py") 449] }:Obj)) ::
 (nat_lit 177,(fn "_law_next" sNext "law_vellum_k19_whole_which_papers_are_taken" 427 176:Obj)) ::
 (nat_lit 183,({ cls:=.type "code",data:=.fields #[.str (Str.ofString "_law_word") 451,.str (Str.ofString "_law_word") 452,.str (Str.ofString "/claim/cut.py") 453,.int 142 0,.int 2 0,.int 0 0,.int 0 0,.int 3 0,.ref 178,.bool true,.int 181 0,.ref 179,.none,.ref 180,.ref 181,.ref 182,.int 462 0,.int 142 0,.str (Str.ofString "/claim/cut.py") 463] }:Obj)) ::
 (nat_lit 184,(fn "_law_word" sWord "law_vellum_k19_whole_which_papers_are_taken" 427 183:Obj)) ::
 (nat_lit 190,({ cls:=.type "code",data:=.fields #[.str (Str.ofString "_law_prices") 465,.str (Str.ofString "_law_prices") 466,.str (Str.ofString "/claim/cut.py") 467,.int 156 0,.int 1 0,.int 0 0,.int 0 0,.int 3 0,.ref 185,.bool true,.int 181 0,.ref 186,.none,.ref 187,.ref 188,.ref 189,.int 473 0,.int 156 0,.str (Str.ofString "/claim/cut.py") 474] }:Obj)) ::
 (nat_lit 191,(fn "_law_prices" sPrices "law_vellum_k19_whole_which_papers_are_taken" 427 190:Obj)) ::
 (nat_lit 195,(co "_law_eye" 476 477 478 168 4 3 192 181 193 194 479 168 480:Obj)) ::
 (nat_lit 196,(fn "_law_eye" sEye "law_vellum_k19_whole_which_papers_are_taken" 427 195:Obj)) ::
 (nat_lit 202,({ cls:=.type "code",data:=.fields #[.str (Str.ofString "_law_slip") 482,.str (Str.ofString "_law_slip") 483,.str (Str.ofString "/claim/cut.py") 484,.int 171 0,.int 5 0,.int 0 0,.int 0 0,.int 3 0,.ref 197,.bool true,.int 181 0,.ref 198,.none,.ref 199,.ref 200,.ref 201,.int 493 0,.int 171 0,.str (Str.ofString "/claim/cut.py") 494] }:Obj)) ::
 (nat_lit 203,(fn "_law_slip" sSlip "law_vellum_k19_whole_which_papers_are_taken" 427 202:Obj)) ::
 (nat_lit 209,({ cls:=.type "code",data:=.fields #[.str (Str.ofString "_law_pair") 496,.str (Str.ofString "_law_pair") 497,.str (Str.ofString "/claim/cut.py") 498,.int 196 0,.int 3 0,.int 0 0,.int 0 0,.int 3 0,.ref 204,.bool true,.int 181 0,.ref 205,.none,.ref 206,.ref 207,.ref 208,.int 509 0,.int 196 0,.str (Str.ofString "/claim/cut.py") 510] }:Obj)) ::
 (nat_lit 210,(fn "_law_pair" sPair "law_vellum_k19_whole_which_papers_are_taken" 427 209:Obj)) ::
 (nat_lit 216,({ cls:=.type "code",data:=.fields #[.str (Str.ofString "_law_made_pairs") 512,.str (Str.ofString "_law_made_pairs") 513,.str (Str.ofString "/claim/cut.py") 514,.int 210 0,.int 2 0,.int 0 0,.int 0 0,.int 3 0,.ref 211,.bool true,.int 181 0,.ref 212,.none,.ref 213,.ref 214,.ref 215,.int 522 0,.int 210 0,.str (Str.ofString "/claim/cut.py") 523] }:Obj)) ::
 (nat_lit 217,(fn "_law_made_pairs" sMP "law_vellum_k19_whole_which_papers_are_taken" 427 216:Obj)) ::
 (nat_lit 223,({ cls:=.type "code",data:=.fields #[.str (Str.ofString "_law_steps") 525,.str (Str.ofString "_law_steps") 526,.str (Str.ofString "/claim/cut.py") 527,.int 222 0,.int 4 0,.int 0 0,.int 0 0,.int 3 0,.ref 218,.bool true,.int 181 0,.ref 219,.none,.ref 220,.ref 221,.ref 222,.int 537 0,.int 222 0,.str (Str.ofString "/claim/cut.py") 538] }:Obj)) ::
 (nat_lit 224,(fn "_law_steps" sLSteps "law_vellum_k19_whole_which_papers_are_taken" 427 223:Obj)) ::
 (nat_lit 228,(co "_law_alike" 540 541 542 243 2 3 225 181 226 227 543 243 544:Obj)) ::
 (nat_lit 229,(fn "_law_alike" sLAlk "law_vellum_k19_whole_which_papers_are_taken" 427 228:Obj)) ::
 (nat_lit 235,({ cls:=.type "code",data:=.fields #[.str (Str.ofString "_law_price") 546,.str (Str.ofString "_law_price") 547,.str (Str.ofString "/claim/cut.py") 548,.int 245 0,.int 4 0,.int 0 0,.int 0 0,.int 3 0,.ref 230,.bool true,.int 181 0,.ref 231,.none,.ref 232,.ref 233,.ref 234,.int 553 0,.int 245 0,.str (Str.ofString "/claim/cut.py") 554] }:Obj)) ::
 (nat_lit 236,(fn "_law_price" sLPrice "law_vellum_k19_whole_which_papers_are_taken" 427 235:Obj)) ::
 (nat_lit 242,({ cls:=.type "code",data:=.fields #[.str (Str.ofString "_law_end") 556,.str (Str.ofString "_law_end") 557,.str (Str.ofString "/claim/cut.py") 558,.int 251 0,.int 3 0,.int 0 0,.int 0 0,.int 3 0,.ref 237,.bool true,.int 181 0,.ref 238,.none,.ref 239,.ref 240,.ref 241,.int 563 0,.int 251 0,.str (Str.ofString "/claim/cut.py") 564] }:Obj)) ::
 (nat_lit 243,(fn "_law_end" sEnd "law_vellum_k19_whole_which_papers_are_taken" 427 242:Obj)) ::
 (nat_lit 249,({ cls:=.type "code",data:=.fields #[.str (Str.ofString "_law_arms") 566,.str (Str.ofString "_law_arms") 567,.str (Str.ofString "/claim/cut.py") 568,.int 256 0,.int 5 0,.int 0 0,.int 0 0,.int 3 0,.ref 244,.bool true,.int 181 0,.ref 245,.none,.ref 246,.ref 247,.ref 248,.int 576 0,.int 256 0,.str (Str.ofString "/claim/cut.py") 577] }:Obj)) ::
 (nat_lit 250,(fn "_law_arms" sArms "law_vellum_k19_whole_which_papers_are_taken" 427 249:Obj)) ::
 (nat_lit 256,({ cls:=.type "code",data:=.fields #[.str (Str.ofString "_law_knots") 579,.str (Str.ofString "_law_knots") 580,.str (Str.ofString "/claim/cut.py") 581,.int 261 0,.int 2 0,.int 0 0,.int 0 0,.int 3 0,.ref 251,.bool true,.int 181 0,.ref 252,.none,.ref 253,.ref 254,.ref 255,.int 587 0,.int 261 0,.str (Str.ofString "/claim/cut.py") 588] }:Obj)) ::
 (nat_lit 257,(fn "_law_knots" sKnots "law_vellum_k19_whole_which_papers_are_taken" 427 256:Obj)) ::
 (nat_lit 261,(co "_law_rest" 590 591 592 267 3 3 258 181 259 260 593 267 594:Obj)) ::
 (nat_lit 262,(fn "_law_rest" sLRest "law_vellum_k19_whole_which_papers_are_taken" 427 261:Obj)) ::
 (nat_lit 266,(co "_law_told" 596 597 598 273 4 3 263 181 264 265 599 273 600:Obj)) ::
 (nat_lit 267,(fn "_law_told" sLTold "law_vellum_k19_whole_which_papers_are_taken" 427 266:Obj)) ::
 (nat_lit 271,(co "_law_table" 602 603 604 281 3 3 268 181 269 270 605 281 606:Obj)) ::
 (nat_lit 272,(fn "_law_table" sLTab "law_vellum_k19_whole_which_papers_are_taken" 427 271:Obj)) ::
 (nat_lit 278,({ cls:=.type "code",data:=.fields #[.str (Str.ofString "_law_does") 608,.str (Str.ofString "_law_does") 609,.str (Str.ofString "/claim/cut.py") 610,.int 287 0,.int 4 0,.int 0 0,.int 0 0,.int 3 0,.ref 273,.bool true,.int 181 0,.ref 274,.none,.ref 275,.ref 276,.ref 277,.int 616 0,.int 287 0,.str (Str.ofString "/claim/cut.py") 617] }:Obj)) ::
 (nat_lit 279,(fn "_law_does" sDoes "law_vellum_k19_whole_which_papers_are_taken" 427 278:Obj)) ::
 (nat_lit 285,({ cls:=.type "code",data:=.fields #[.str (Str.ofString "_law_made") 619,.str (Str.ofString "_law_made") 620,.str (Str.ofString "/claim/cut.py") 621,.int 304 0,.int 3 0,.int 0 0,.int 0 0,.int 3 0,.ref 280,.bool true,.int 181 0,.ref 281,.none,.ref 282,.ref 283,.ref 284,.int 630 0,.int 304 0,.str (Str.ofString "/claim/cut.py") 631] }:Obj)) ::
 (nat_lit 286,(fn "_law_made" sMade "law_vellum_k19_whole_which_papers_are_taken" 427 285:Obj)) ::
 (nat_lit 292,({ cls:=.type "code",data:=.fields #[.str (Str.ofString "_law_bounds") 633,.str (Str.ofString "_law_bounds") 634,.str (Str.ofString "/claim/cut.py") 635,.int 318 0,.int 4 0,.int 0 0,.int 0 0,.int 3 0,.ref 287,.bool true,.int 181 0,.ref 288,.none,.ref 289,.ref 290,.ref 291,.int 645 0,.int 318 0,.str (Str.ofString "/claim/cut.py") 646] }:Obj)) ::
 (nat_lit 293,(fn "_law_bounds" sLBd "law_vellum_k19_whole_which_papers_are_taken" 427 292:Obj)) ::
 (nat_lit 297,(co "_law_stands" 648 649 650 324 6 3 294 181 295 296 651 324 652:Obj)) ::
 (nat_lit 298,(fn "_law_stands" sLSt "law_vellum_k19_whole_which_papers_are_taken" 427 297:Obj)) ::
 (nat_lit 304,({ cls:=.type "code",data:=.fields #[.str (Str.ofString "_law_form") 654,.str (Str.ofString "_law_form") 655,.str (Str.ofString "/claim/cut.py") 656,.int 332 0,.int 2 0,.int 0 0,.int 0 0,.int 3 0,.ref 299,.bool true,.int 181 0,.ref 300,.none,.ref 301,.ref 302,.ref 303,.int 661 0,.int 332 0,.str (Str.ofString "/claim/cut.py") 662] }:Obj)) ::
 (nat_lit 305,(fn "_law_form" sForm "law_vellum_k19_whole_which_papers_are_taken" 427 304:Obj)) ::
 (nat_lit 311,({ cls:=.type "code",data:=.fields #[.str (Str.ofString "_law_changed") 664,.str (Str.ofString "_law_changed") 665,.str (Str.ofString "/claim/cut.py") 666,.int 336 0,.int 3 0,.int 0 0,.int 0 0,.int 3 0,.ref 306,.bool true,.int 181 0,.ref 307,.none,.ref 308,.ref 309,.ref 310,.int 673 0,.int 336 0,.str (Str.ofString "/claim/cut.py") 674] }:Obj)) ::
 (nat_lit 312,(fn "_law_changed" sChg "law_vellum_k19_whole_which_papers_are_taken" 427 311:Obj)) ::
 (nat_lit 318,({ cls:=.type "code",data:=.fields #[.str (Str.ofString "_law_last") 676,.str (Str.ofString "_law_last") 677,.str (Str.ofString "/claim/cut.py") 678,.int 341 0,.int 2 0,.int 0 0,.int 0 0,.int 3 0,.ref 313,.bool true,.int 181 0,.ref 314,.none,.ref 315,.ref 316,.ref 317,.int 681 0,.int 341 0,.str (Str.ofString "/claim/cut.py") 682] }:Obj)) ::
 (nat_lit 319,(fn "_law_last" sLast "law_vellum_k19_whole_which_papers_are_taken" 427 318:Obj)) ::
 (nat_lit 325,({ cls:=.type "code",data:=.fields #[.str (Str.ofString "_law_steps_spoilt") 684,.str (Str.ofString "_law_steps_spoilt") 685,.str (Str.ofString "/claim/cut.py") 686,.int 343 0,.int 4 0,.int 0 0,.int 0 0,.int 3 0,.ref 320,.bool true,.int 181 0,.ref 321,.none,.ref 322,.ref 323,.ref 324,.int 693 0,.int 343 0,.str (Str.ofString "/claim/cut.py") 694] }:Obj)) ::
 (nat_lit 326,(fn "_law_steps_spoilt" sSSp "law_vellum_k19_whole_which_papers_are_taken" 427 325:Obj)) ::
 (nat_lit 330,(co "_law_table_spoilt" 696 697 698 355 3 3 327 181 328 329 699 355 700:Obj)) ::
 (nat_lit 331,(fn "_law_table_spoilt" sTSp "law_vellum_k19_whole_which_papers_are_taken" 427 330:Obj)) ::
 (nat_lit 335,(co "_law_paper" 702 703 704 369 4 3 332 181 333 334 705 369 706:Obj)) ::
 (nat_lit 336,(fn "_law_paper" sPaper "law_vellum_k19_whole_which_papers_are_taken" 427 335:Obj)) ::
 (nat_lit 342,({ cls:=.type "code",data:=.fields #[.str (Str.ofString "law") 708,.str (Str.ofString "law") 709,.str (Str.ofString "/claim/cut.py") 710,.int 389 0,.int 1 0,.int 0 0,.int 0 0,.int 3 0,.ref 337,.bool true,.int 181 0,.ref 338,.none,.ref 339,.ref 340,.ref 341,.int 718 0,.int 389 0,.str (Str.ofString "/claim/cut.py") 719] }:Obj)) ::
 (nat_lit 343,(fn "law" sLaw "law_vellum_k19_whole_which_papers_are_taken" 427 342:Obj)) ::
 []
noncomputable def view:Program:={ PySem.Challenge.pw_vellum_k19_whole_which_papers_are_taken with main:={ (PySem.Challenge.pw_vellum_k19_whole_which_papers_are_taken).main with body:=[top 57] } }
abbrev ad:List Addr:=nat_lit 2 :: nat_lit 3 :: nat_lit 23 :: nat_lit 24 :: nat_lit 25 :: nat_lit 36 :: nat_lit 37 :: nat_lit 43 :: nat_lit 44 :: nat_lit 45 :: nat_lit 51 :: nat_lit 52 :: nat_lit 58 :: nat_lit 59 :: nat_lit 65 :: nat_lit 66 :: nat_lit 72 :: nat_lit 73 :: nat_lit 79 :: nat_lit 80 :: nat_lit 86 :: nat_lit 87 :: nat_lit 93 :: nat_lit 94 :: nat_lit 100 :: nat_lit 101 :: nat_lit 105 :: nat_lit 106 :: nat_lit 112 :: nat_lit 113 :: nat_lit 117 :: nat_lit 118 :: nat_lit 122 :: nat_lit 123 :: nat_lit 129 :: nat_lit 130 :: nat_lit 134 :: nat_lit 135 :: nat_lit 141 :: nat_lit 142 :: nat_lit 148 :: nat_lit 149 :: nat_lit 155 :: nat_lit 156 :: nat_lit 162 :: nat_lit 163 :: nat_lit 169 :: nat_lit 170 :: nat_lit 176 :: nat_lit 177 :: nat_lit 183 :: nat_lit 184 :: nat_lit 190 :: nat_lit 191 :: nat_lit 195 :: nat_lit 196 :: nat_lit 202 :: nat_lit 203 :: nat_lit 209 :: nat_lit 210 :: nat_lit 216 :: nat_lit 217 :: nat_lit 223 :: nat_lit 224 :: nat_lit 228 :: nat_lit 229 :: nat_lit 235 :: nat_lit 236 :: nat_lit 242 :: nat_lit 243 :: nat_lit 249 :: nat_lit 250 :: nat_lit 256 :: nat_lit 257 :: nat_lit 261 :: nat_lit 262 :: nat_lit 266 :: nat_lit 267 :: nat_lit 271 :: nat_lit 272 :: nat_lit 278 :: nat_lit 279 :: nat_lit 285 :: nat_lit 286 :: nat_lit 292 :: nat_lit 293 :: nat_lit 297 :: nat_lit 298 :: nat_lit 304 :: nat_lit 305 :: nat_lit 311 :: nat_lit 312 :: nat_lit 318 :: nat_lit 319 :: nat_lit 325 :: nat_lit 326 :: nat_lit 330 :: nat_lit 331 :: nat_lit 335 :: nat_lit 336 :: nat_lit 342 :: nat_lit 343 :: []
theorem ad_hp:∀ P,ad=(hp P).map (·.1):=fun _=>by kernel_rfl
theorem left_false:∀ w:World,(fun w=>(PySem.W.openEnds PySem.treeTable PySem.Challenge.pw_vellum_k19_whole_which_papers_are_taken w 4214).map (fun s=>(PySem.W.openSeen K19.view [Str.ofString "VellumError",Str.ofString "NoSlips",Str.ofString "MOST_WORDS",Str.ofString "looks_alike",Str.ofString "LIKE",Str.ofString "PRICE_PLACES",Str.ofString "skip_fits",Str.ofString "step_fits",Str.ofString "words_done",Str.ofString "words_written",Str.ofString "step_after",Str.ofString "steps_walked",Str.ofString "copy_made",Str.ofString "step_price",Str.ofString "slips_price",Str.ofString "swap_writes",Str.ofString "skip_lengths",Str.ofString "knot_ways",Str.ofString "steps_stand",Str.ofString "has_shape",Str.ofString "knot_stands",Str.ofString "table_stands",Str.ofString "slips_stand",Str.ofString "_law_cell_at",Str.ofString "_law_stir",Str.ofString "_law_next",Str.ofString "_law_word",Str.ofString "_law_prices",Str.ofString "_law_eye",Str.ofString "_law_slip",Str.ofString "_law_pair",Str.ofString "_law_made_pairs",Str.ofString "_law_steps",Str.ofString "_law_alike",Str.ofString "_law_price",Str.ofString "_law_end",Str.ofString "_law_arms",Str.ofString "_law_knots",Str.ofString "_law_rest",Str.ofString "_law_told",Str.ofString "_law_table",Str.ofString "_law_does",Str.ofString "_law_made",Str.ofString "_law_bounds",Str.ofString "_law_stands",Str.ofString "_law_form",Str.ofString "_law_changed",Str.ofString "_law_last",Str.ofString "_law_steps_spoilt",Str.ofString "_law_table_spoilt",Str.ofString "_law_paper"] (importedModules (PySem.Challenge.pw_vellum_k19_whole_which_papers_are_taken).main.body) (fun s=>PySem.W.xlAt K19.view [] s && PySem.W.recOk (PySem.W.RowW.records (PySem.W.OpenRow.toRowW PySem.Challenge.rw_vellum_k19_whole_which_papers_are_taken.row)) s) true s,PySem.W.Hook.obs (PySem.W.kHook K19.hp K19.ad K19.ad_hp) s))=some (PySem.W.openGood K19.view [Str.ofString "VellumError",Str.ofString "NoSlips",Str.ofString "MOST_WORDS",Str.ofString "looks_alike",Str.ofString "LIKE",Str.ofString "PRICE_PLACES",Str.ofString "skip_fits",Str.ofString "step_fits",Str.ofString "words_done",Str.ofString "words_written",Str.ofString "step_after",Str.ofString "steps_walked",Str.ofString "copy_made",Str.ofString "step_price",Str.ofString "slips_price",Str.ofString "swap_writes",Str.ofString "skip_lengths",Str.ofString "knot_ways",Str.ofString "steps_stand",Str.ofString "has_shape",Str.ofString "knot_stands",Str.ofString "table_stands",Str.ofString "slips_stand",Str.ofString "_law_cell_at",Str.ofString "_law_stir",Str.ofString "_law_next",Str.ofString "_law_word",Str.ofString "_law_prices",Str.ofString "_law_eye",Str.ofString "_law_slip",Str.ofString "_law_pair",Str.ofString "_law_made_pairs",Str.ofString "_law_steps",Str.ofString "_law_alike",Str.ofString "_law_price",Str.ofString "_law_end",Str.ofString "_law_arms",Str.ofString "_law_knots",Str.ofString "_law_rest",Str.ofString "_law_told",Str.ofString "_law_table",Str.ofString "_law_does",Str.ofString "_law_made",Str.ofString "_law_bounds",Str.ofString "_law_stands",Str.ofString "_law_form",Str.ofString "_law_changed",Str.ofString "_law_last",Str.ofString "_law_steps_spoilt",Str.ofString "_law_table_spoilt",Str.ofString "_law_paper"],PySem.W.Hook.val (PySem.W.kHook K19.hp K19.ad K19.ad_hp) w)) (w.withFollow "special-get-raises" false):=fun w=>by kernel_rfl
theorem left_true:∀ w:World,(fun w=>(PySem.W.openEnds PySem.treeTable PySem.Challenge.pw_vellum_k19_whole_which_papers_are_taken w 4214).map (fun s=>(PySem.W.openSeen K19.view [Str.ofString "VellumError",Str.ofString "NoSlips",Str.ofString "MOST_WORDS",Str.ofString "looks_alike",Str.ofString "LIKE",Str.ofString "PRICE_PLACES",Str.ofString "skip_fits",Str.ofString "step_fits",Str.ofString "words_done",Str.ofString "words_written",Str.ofString "step_after",Str.ofString "steps_walked",Str.ofString "copy_made",Str.ofString "step_price",Str.ofString "slips_price",Str.ofString "swap_writes",Str.ofString "skip_lengths",Str.ofString "knot_ways",Str.ofString "steps_stand",Str.ofString "has_shape",Str.ofString "knot_stands",Str.ofString "table_stands",Str.ofString "slips_stand",Str.ofString "_law_cell_at",Str.ofString "_law_stir",Str.ofString "_law_next",Str.ofString "_law_word",Str.ofString "_law_prices",Str.ofString "_law_eye",Str.ofString "_law_slip",Str.ofString "_law_pair",Str.ofString "_law_made_pairs",Str.ofString "_law_steps",Str.ofString "_law_alike",Str.ofString "_law_price",Str.ofString "_law_end",Str.ofString "_law_arms",Str.ofString "_law_knots",Str.ofString "_law_rest",Str.ofString "_law_told",Str.ofString "_law_table",Str.ofString "_law_does",Str.ofString "_law_made",Str.ofString "_law_bounds",Str.ofString "_law_stands",Str.ofString "_law_form",Str.ofString "_law_changed",Str.ofString "_law_last",Str.ofString "_law_steps_spoilt",Str.ofString "_law_table_spoilt",Str.ofString "_law_paper"] (importedModules (PySem.Challenge.pw_vellum_k19_whole_which_papers_are_taken).main.body) (fun s=>PySem.W.xlAt K19.view [] s && PySem.W.recOk (PySem.W.RowW.records (PySem.W.OpenRow.toRowW PySem.Challenge.rw_vellum_k19_whole_which_papers_are_taken.row)) s) true s,PySem.W.Hook.obs (PySem.W.kHook K19.hp K19.ad K19.ad_hp) s))=some (PySem.W.openGood K19.view [Str.ofString "VellumError",Str.ofString "NoSlips",Str.ofString "MOST_WORDS",Str.ofString "looks_alike",Str.ofString "LIKE",Str.ofString "PRICE_PLACES",Str.ofString "skip_fits",Str.ofString "step_fits",Str.ofString "words_done",Str.ofString "words_written",Str.ofString "step_after",Str.ofString "steps_walked",Str.ofString "copy_made",Str.ofString "step_price",Str.ofString "slips_price",Str.ofString "swap_writes",Str.ofString "skip_lengths",Str.ofString "knot_ways",Str.ofString "steps_stand",Str.ofString "has_shape",Str.ofString "knot_stands",Str.ofString "table_stands",Str.ofString "slips_stand",Str.ofString "_law_cell_at",Str.ofString "_law_stir",Str.ofString "_law_next",Str.ofString "_law_word",Str.ofString "_law_prices",Str.ofString "_law_eye",Str.ofString "_law_slip",Str.ofString "_law_pair",Str.ofString "_law_made_pairs",Str.ofString "_law_steps",Str.ofString "_law_alike",Str.ofString "_law_price",Str.ofString "_law_end",Str.ofString "_law_arms",Str.ofString "_law_knots",Str.ofString "_law_rest",Str.ofString "_law_told",Str.ofString "_law_table",Str.ofString "_law_does",Str.ofString "_law_made",Str.ofString "_law_bounds",Str.ofString "_law_stands",Str.ofString "_law_form",Str.ofString "_law_changed",Str.ofString "_law_last",Str.ofString "_law_steps_spoilt",Str.ofString "_law_table_spoilt",Str.ofString "_law_paper"],PySem.W.Hook.val (PySem.W.kHook K19.hp K19.ad K19.ad_hp) w)) (w.withFollow "special-get-raises" true):=fun w=>by kernel_rfl
theorem left:PySem.W.LeftO PySem.Challenge.pw_vellum_k19_whole_which_papers_are_taken view [Str.ofString "VellumError",Str.ofString "NoSlips",Str.ofString "MOST_WORDS",Str.ofString "looks_alike",Str.ofString "LIKE",Str.ofString "PRICE_PLACES",Str.ofString "skip_fits",Str.ofString "step_fits",Str.ofString "words_done",Str.ofString "words_written",Str.ofString "step_after",Str.ofString "steps_walked",Str.ofString "copy_made",Str.ofString "step_price",Str.ofString "slips_price",Str.ofString "swap_writes",Str.ofString "skip_lengths",Str.ofString "knot_ways",Str.ofString "steps_stand",Str.ofString "has_shape",Str.ofString "knot_stands",Str.ofString "table_stands",Str.ofString "slips_stand",Str.ofString "_law_cell_at",Str.ofString "_law_stir",Str.ofString "_law_next",Str.ofString "_law_word",Str.ofString "_law_prices",Str.ofString "_law_eye",Str.ofString "_law_slip",Str.ofString "_law_pair",Str.ofString "_law_made_pairs",Str.ofString "_law_steps",Str.ofString "_law_alike",Str.ofString "_law_price",Str.ofString "_law_end",Str.ofString "_law_arms",Str.ofString "_law_knots",Str.ofString "_law_rest",Str.ofString "_law_told",Str.ofString "_law_table",Str.ofString "_law_does",Str.ofString "_law_made",Str.ofString "_law_bounds",Str.ofString "_law_stands",Str.ofString "_law_form",Str.ofString "_law_changed",Str.ofString "_law_last",Str.ofString "_law_steps_spoilt",Str.ofString "_law_table_spoilt",Str.ofString "_law_paper"] (fun s=>PySem.W.xlAt K19.view [] s && PySem.W.recOk (PySem.W.RowW.records (PySem.W.OpenRow.toRowW PySem.Challenge.rw_vellum_k19_whole_which_papers_are_taken.row)) s) (PySem.W.Hook.obs (PySem.W.kHook K19.hp K19.ad K19.ad_hp)) (PySem.W.Hook.val (PySem.W.kHook K19.hp K19.ad K19.ad_hp)) 4214:=
 PySem.W.byRow2 (P:=fun w=>(PySem.W.openEnds PySem.treeTable PySem.Challenge.pw_vellum_k19_whole_which_papers_are_taken w 4214).map (fun s=>(PySem.W.openSeen K19.view [Str.ofString "VellumError",Str.ofString "NoSlips",Str.ofString "MOST_WORDS",Str.ofString "looks_alike",Str.ofString "LIKE",Str.ofString "PRICE_PLACES",Str.ofString "skip_fits",Str.ofString "step_fits",Str.ofString "words_done",Str.ofString "words_written",Str.ofString "step_after",Str.ofString "steps_walked",Str.ofString "copy_made",Str.ofString "step_price",Str.ofString "slips_price",Str.ofString "swap_writes",Str.ofString "skip_lengths",Str.ofString "knot_ways",Str.ofString "steps_stand",Str.ofString "has_shape",Str.ofString "knot_stands",Str.ofString "table_stands",Str.ofString "slips_stand",Str.ofString "_law_cell_at",Str.ofString "_law_stir",Str.ofString "_law_next",Str.ofString "_law_word",Str.ofString "_law_prices",Str.ofString "_law_eye",Str.ofString "_law_slip",Str.ofString "_law_pair",Str.ofString "_law_made_pairs",Str.ofString "_law_steps",Str.ofString "_law_alike",Str.ofString "_law_price",Str.ofString "_law_end",Str.ofString "_law_arms",Str.ofString "_law_knots",Str.ofString "_law_rest",Str.ofString "_law_told",Str.ofString "_law_table",Str.ofString "_law_does",Str.ofString "_law_made",Str.ofString "_law_bounds",Str.ofString "_law_stands",Str.ofString "_law_form",Str.ofString "_law_changed",Str.ofString "_law_last",Str.ofString "_law_steps_spoilt",Str.ofString "_law_table_spoilt",Str.ofString "_law_paper"] (importedModules (PySem.Challenge.pw_vellum_k19_whole_which_papers_are_taken).main.body) (fun s=>PySem.W.xlAt K19.view [] s && PySem.W.recOk (PySem.W.RowW.records (PySem.W.OpenRow.toRowW PySem.Challenge.rw_vellum_k19_whole_which_papers_are_taken.row)) s) true s,PySem.W.Hook.obs (PySem.W.kHook K19.hp K19.ad K19.ad_hp) s))=some (PySem.W.openGood K19.view [Str.ofString "VellumError",Str.ofString "NoSlips",Str.ofString "MOST_WORDS",Str.ofString "looks_alike",Str.ofString "LIKE",Str.ofString "PRICE_PLACES",Str.ofString "skip_fits",Str.ofString "step_fits",Str.ofString "words_done",Str.ofString "words_written",Str.ofString "step_after",Str.ofString "steps_walked",Str.ofString "copy_made",Str.ofString "step_price",Str.ofString "slips_price",Str.ofString "swap_writes",Str.ofString "skip_lengths",Str.ofString "knot_ways",Str.ofString "steps_stand",Str.ofString "has_shape",Str.ofString "knot_stands",Str.ofString "table_stands",Str.ofString "slips_stand",Str.ofString "_law_cell_at",Str.ofString "_law_stir",Str.ofString "_law_next",Str.ofString "_law_word",Str.ofString "_law_prices",Str.ofString "_law_eye",Str.ofString "_law_slip",Str.ofString "_law_pair",Str.ofString "_law_made_pairs",Str.ofString "_law_steps",Str.ofString "_law_alike",Str.ofString "_law_price",Str.ofString "_law_end",Str.ofString "_law_arms",Str.ofString "_law_knots",Str.ofString "_law_rest",Str.ofString "_law_told",Str.ofString "_law_table",Str.ofString "_law_does",Str.ofString "_law_made",Str.ofString "_law_bounds",Str.ofString "_law_stands",Str.ofString "_law_form",Str.ofString "_law_changed",Str.ofString "_law_last",Str.ofString "_law_steps_spoilt",Str.ofString "_law_table_spoilt",Str.ofString "_law_paper"],PySem.W.Hook.val (PySem.W.kHook K19.hp K19.ad K19.ad_hp) w)) "special-get-raises" left_false left_true
theorem said0:PySem.W.OpenLaw.wellSaid PySem.Challenge.rw_vellum_k19_whole_which_papers_are_taken=true:=by kernel_rfl
end K19
namespace L2
open PySem PySem.Spec PyProof.Rows
abbrev Key:=Sum Int Str
def keyIs:Key->Value->Bool
 | .inl k,v=>Value.isInt k v
 | .inr x,v=>Value.isStrOf x v
def keyH (w:World):Key->Int
 | .inl k=>hashInt k
 | .inr x=>hashStr w x
theorem keyIs_shape:∀ {k:Key} {v:Value},keyIs k v=true->(∃ i t,k=Sum.inl i/\v=Value.int i t)\/(∃ x t,k=Sum.inr x/\v=Value.str x t)
 | .inl i,v,h=>by
  obtain ⟨t,e⟩:=Value.isInt_shape (k:=i) (v:=v) h
  exact .inl ⟨i,t,rfl,e⟩
 | .inr x,v,h=>by
  obtain ⟨t,e⟩:=Value.isStrOf_shape (x:=x) (v:=v) h
  exact .inr ⟨x,t,rfl,e⟩
theorem keyIs_int (i:Int) (t:Tok):keyIs (.inl i) (.int i t)=true:=by simp [keyIs,Value.isInt]
theorem keyIs_str (x:Str) (t:Tok):keyIs (.inr x) (.str x t)=true:=by simp [keyIs,Value.isStrOf]
theorem key_ll (a b:Int):decide ((Sum.inl a:Key)=Sum.inl b)=(a == b):=by
 by_cases e:a=b
 ·subst e;simp
 ·have h:¬ (Sum.inl a:Key)=Sum.inl b:=fun q=>e (Sum.inl.inj q)
  rw [decide_eq_false h]
  exact (beq_eq_false_iff_ne.mpr e).symm
theorem key_rr (a b:Str):decide ((Sum.inr a:Key)=Sum.inr b)=decide (a=b):=by
 by_cases e:a=b
 ·subst e;simp
 ·have h:¬ (Sum.inr a:Key)=Sum.inr b:=fun q=>e (Sum.inr.inj q)
  rw [decide_eq_false h,decide_eq_false e]
theorem key_lr (a:Int) (b:Str):decide ((Sum.inl a:Key)=Sum.inr b)=false:=decide_eq_false (fun q=>nomatch q)
theorem key_rl (a:Str) (b:Int):decide ((Sum.inr a:Key)=Sum.inl b)=false:=decide_eq_false (fun q=>nomatch q)
def mixKind (prog:Program) (w:World):PySem.KeyKind prog w Key where
 is:=keyIs
 hash:=keyH w
 inj:=fun v a b ha hb=>by
  rcases keyIs_shape ha with ⟨i,t,rfl,rfl⟩ | ⟨x,t,rfl,rfl⟩
  ·rcases keyIs_shape hb with ⟨j,u,rfl,e⟩ | ⟨y,u,rfl,e⟩
   ·injection e with e1 _;rw [e1]
   ·exact nomatch e
  ·rcases keyIs_shape hb with ⟨j,u,rfl,e⟩ | ⟨y,u,rfl,e⟩
   ·exact nomatch e
   ·injection e with e1 _;rw [e1]
 byValue:=fun k v h=>by
  rcases keyIs_shape h with ⟨i,t,rfl,rfl⟩ | ⟨x,t,rfl,rfl⟩ <;> rfl
 pyHash:=fun hv h=>by
  rcases keyIs_shape hv with ⟨i,t,rfl,rfl⟩ | ⟨x,t,rfl,rfl⟩
  ·exact wpAny_pyHash_int h
  ·exact wpAny_pyHash_str h
 eqBool:=fun hu hv h=>by
  rcases keyIs_shape hu with ⟨i,t,rfl,rfl⟩ | ⟨x,t,rfl,rfl⟩
  ·rcases keyIs_shape hv with ⟨j,u,rfl,rfl⟩ | ⟨y,u,rfl,rfl⟩
   ·rw [key_ll] at h;exact wpAny_eqBool_int h
   ·rw [key_lr] at h;exact SeqAt.EqAt.int_str i t y u _ _ _ _ h
  ·rcases keyIs_shape hv with ⟨j,u,rfl,rfl⟩ | ⟨y,u,rfl,rfl⟩
   ·rw [key_rl] at h;exact SeqAt.EqAt.str_int x t j u _ _ _ _ h
   ·rw [key_rr] at h;exact wpAny_eqBool_str h
 «strs»:=fun k x t v h=>by
  rcases keyIs_shape h with ⟨i,u,rfl,e⟩ | ⟨y,u,rfl,e⟩
  ·exact nomatch e
  ·injection e with e1 _
   subst e1
   cases v <;> rfl
theorem mixKind_int (prog:Program) (w:World) (i:Int) (t:Tok):(mixKind prog w).is (.inl i) (.int i t)=true:=keyIs_int i t
theorem mixKind_str (prog:Program) (w:World) (x:Str) (t:Tok):(mixKind prog w).is (.inr x) (.str x t)=true:=keyIs_str x t
end L2
namespace L2
open PySem PySem.Spec PyProof.Rows
inductive V where
 | non | bl (b:Bool) | int (i:Int) | str (x:Str) | byt (b:Array UInt8) | flt (b:UInt64) | ref (a:Addr) | ty (n:String)
 deriving DecidableEq
def RelV:V->Value->Prop
 | .non,u=>u=Value.none
 | .bl b,u=>u=Value.bool b
 | .int i,u=>∃ t,u=Value.int i t
 | .str x,u=>∃ t,u=Value.str x t
 | .byt b,u=>∃ t,u=Value.bytes b t
 | .flt b,u=>∃ t,u=Value.float b t
 | .ref a,u=>u=Value.ref a
 | .ty n,u=>u=Value.type n
abbrev Vals:List V->List Value->Prop:=Paired RelV
theorem Vals.length {xs:List V} {us:List Value} (r:Vals xs us):xs.length=us.length:=Paired.length r
theorem Vals.get:∀ {xs:List V} {us:List Value} {i:Nat} {x:V},Vals xs us->xs[i]?=some x->∃ u,us[i]?=some u/\RelV x u
 | _,_,_,_,.nil,e=>by simp at e
 | _,_,0,_,.cons r _,e=>by simp at e;subst e;exact ⟨_,rfl,r⟩
 | _,_,i+1,x,.cons _ t,e=>by
  obtain ⟨u,h1,h2⟩:=Vals.get (i:=i) (x:=x) t (by simpa using e)
  exact ⟨u,by simpa using h1,h2⟩
theorem Vals.append:∀ {xs ys:List V} {us ws:List Value},Vals xs us->Vals ys ws->Vals (xs++ys) (us++ws)
 | _,_,_,_,.nil,s=>s
 | _,_,_,_,.cons r t,s=>.cons r (Vals.append t s)
theorem Vals.take:∀ {xs:List V} {us:List Value} (n:Nat),Vals xs us->Vals (xs.take n) (us.take n)
 | _,_,0,_=>.nil
 | _,_,_+1,.nil=>.nil
 | _,_,n+1,.cons r t=>.cons r (Vals.take n t)
theorem Vals.drop:∀ {xs:List V} {us:List Value} (n:Nat),Vals xs us->Vals (xs.drop n) (us.drop n)
 | _,_,0,r=>r
 | _,_,_+1,.nil=>.nil
 | _,_,n+1,.cons _ t=>Vals.drop n t
def RelO:Option V->Option Value->Prop
 | some v,some u=>RelV v u
 | none,none=>True
 | _,_=>False
def KV {κ:Type}:List (κ × V)->List (κ × Value)->Prop:=Paired fun (p:κ × V) (q:κ × Value)=>p.1=q.1/\RelV p.2 q.2
def kV:Key->V
 | .inl i=>.int i
 | .inr x=>.str x
inductive HO where
 /-- a list -/
 | lst (xs:List V)
 /-- a tuple (never changes) -/
 | tup (xs:List V)
 /-- a dict whose keys are ints and texts;one whose keys are tuples of ints and texts (the empty one is both) -/
 | dK (kvs:List (Key × V)) | dT (kvs:List (List Key × V))
 /-- a set of ints: its members,its size -/
 | set (S:Int->Bool) (n:Nat)
 /-- an instance of the class at C,its dict at dx,its attributes -/
 | ins (C dx:Addr) (fs:List (Str × V))
 /-- the dict of the instance at x -/
 | own (x:Addr)
 /-- the dict of an exception -/
 | xd (fs:List (Str × V))
 /-- a bound method,f of x -/
 | met (f x:Addr)
 /-- a range object lo,lo+1, .. below hi -/
 | rng (lo hi:Int)
 /-- a thing that is known to the object (the script;a dict while a loop walks it): read,never written while it is so -/
 | frz (o:Obj) (u:HO)
 /-- a code object's table -/
 | tbl (ps:Array Value)
 /-- any other thing,by what is true of its one object (a def of one's own: SetO a S n:=HO.ext fun h=>..) -/
 | ext (φ:Heap->Prop)
abbrev Hp:=Addr->Option HO
def upd (H:Hp) (a:Addr) (o:HO):Hp:=fun b=>if b=a then some o else H b
theorem upd_same {H:Hp} {a:Addr} {o:HO}:upd H a o a=some o:=by unfold upd;rw [if_pos rfl]
theorem upd_ne {H:Hp} {a b:Addr} {o:HO} (h:b ≠ a):upd H a o b=H b:=by unfold upd;rw [if_neg h]
theorem ne_of {H:Hp} {a b:Addr} {o u:HO} (h:H a=some o) (h':H b=some u) (d:o ≠ u):a ≠ b:=by
 intro e;subst e;rw [h] at h';exact d (Option.some.inj h')
theorem ne_of_none {H:Hp} {a b:Addr} {o:HO} (h:H a=some o) (h':H b=none):a ≠ b:=by
 intro e;subst e;rw [h] at h';cases h'
section
variable (P:Program) (w:World)
def ObjOk (H:Hp) (h:Heap) (a:Addr):HO->Prop
 | .lst xs=>xs.length<=sizeLine/\∃ (its:List Value) (n:Nat),Vals xs its/\h.get? a=some { cls:=.type "list",data:=.seq its.toArray n }
 | .tup xs=>xs.length<=sizeLine/\∃ its:List Value,Vals xs its/\IsTup h a its.toArray
 | .dK kvs=>kvs.length<=sizeLine/\(a == sysModules)=false/\∃ vs,KV kvs vs/\h.DictOf (mixKind P w) a vs
 | .dT _=>False
 | .set S n=>h.SetOf (intKind P w) a S n
 | .ins C dx fs=>H dx=some (.own a)/\fs.length<=1000/\dx ≠ a/\h.get? a=some (PySem.W.instObj C dx) ∧
   ∃ mA,h.Ns1 dx mA/\(∀ f,RelO (fs.lookup f) (mA f))/\PySem.Within mA (fs.map (·.1))
 | .own _=>∃ o,h.get? a=some o
 | .xd fs=>∃ mA,h.Ns1 a mA/\∀ f,RelO (fs.lookup f) (mA f)
 | .rng lo hi=>∃ t u v,h.get? a=some { cls:=.type "range",data:=.fields #[.int lo t,.int hi u,.int 1 v] }
 | .frz o u=>h.get? a=some o/\ObjOk H h a u
 | .tbl ps=>h.get? a=some { cls:=.none,data:=.fields ps }
 | .met f x=>h.get? a=some (PySem.W.methodObj (.ref f) (.ref x))
 | .ext φ=>φ h/\(∃ o,h.get? a=some o)/\∀ h1 h2:Heap,φ h1->(∀ o,h1.get? a=some o->h2.get? a=some o)->φ h2
def HOk (H:Hp) (h:Heap):Prop:=∀ a o,H a=some o->ObjOk P w H h a o
end
section
variable {P:Program} {w:World} {H H':Hp} {h h':Heap} {a:Addr} {o:HO}
theorem ObjOk.lt (x:ObjOk P w H h a o):a < h.objs.size:=by
 cases o with
 | lst xs=>obtain ⟨_,_,_,_,e⟩:=x;exact Heap.lt_size e
 | tup xs=>obtain ⟨_,_,_,p⟩:=x;exact p.lt
 | dK kvs=>obtain ⟨_,_,_,_,o,_,_,e,_⟩:=x;exact Heap.lt_size e
 | dT kvs=>exact False.elim x
 | set S n=>obtain ⟨o,_,_,_,e,_⟩:=x;exact Heap.lt_size e
 | ins C dx fs=>obtain ⟨_,_,_,e,_⟩:=x;exact Heap.lt_size e
 | own y=>obtain ⟨_,e⟩:=x;exact Heap.lt_size e
 | xd fs=>obtain ⟨_,⟨_,_,_,e,_⟩,_⟩:=x;exact Heap.lt_size e
 | rng lo hi=>obtain ⟨_,_,_,e⟩:=x;exact Heap.lt_size e
 | frz ob u=>obtain ⟨e,_⟩:=x;exact Heap.lt_size e
 | tbl ps=>exact Heap.lt_size (show h.get? a=some _ from x)
 | met f y=>exact Heap.lt_size (show h.get? a=some _ from x)
 | ext φ=>obtain ⟨_,⟨_,e⟩,_⟩:=x;exact Heap.lt_size e
theorem ObjOk.stay (x:ObjOk P w H h a o) (k:∀ b u,(b=a\/H b=some (.own a))->h.get? b=some u->h'.get? b=some u)
  (ho:∀ b,H b=some (.own a)->H' b=some (.own a)) (ht:∀ b xs,H b=some (.tup xs)->H' b=some (.tup xs)):ObjOk P w H' h' a o:=by
 induction o with
 | lst xs=>obtain ⟨z,its,n,r,e⟩:=x;exact ⟨z,its,n,r,k _ _ (.inl rfl) e⟩
 | tup xs=>obtain ⟨z,its,r,ob,e,c⟩:=x;exact ⟨z,its,r,ob,k _ _ (.inl rfl) e,c⟩
 | dK kvs=>obtain ⟨z,y,vs,r,ob,es,ep,e,c⟩:=x;exact ⟨z,y,vs,r,ob,es,ep,k _ _ (.inl rfl) e,c⟩
 | dT kvs=>exact False.elim x
 | set S n=>obtain ⟨ob,es,ep,t,e,c⟩:=x;exact ⟨ob,es,ep,t,k _ _ (.inl rfl) e,c⟩
 | ins C dx fs=>
  obtain ⟨d,z,ne,e,mA,⟨od,es,ep,e2,c⟩,r⟩:=x
  exact ⟨ho _ d,z,ne,k _ _ (.inl rfl) e,mA,⟨od,es,ep,k _ _ (.inr d) e2,c⟩,r⟩
 | own y=>obtain ⟨ob,e⟩:=x;exact ⟨ob,k _ _ (.inl rfl) e⟩
 | xd fs=>obtain ⟨mA,⟨od,es,ep,e,c⟩,r⟩:=x;exact ⟨mA,⟨od,es,ep,k _ _ (.inl rfl) e,c⟩,r⟩
 | rng lo hi=>obtain ⟨t,u,v,e⟩:=x;exact ⟨t,u,v,k _ _ (.inl rfl) e⟩
 | frz ob u ih=>obtain ⟨e,q⟩:=x;exact ⟨k _ _ (.inl rfl) e,ih q⟩
 | tbl ps=>
  have e:h.get? a=some { cls:=.none,data:=.fields ps }:=x
  show h'.get? a=some { cls:=.none,data:=.fields ps }
  exact k a _ (.inl rfl) e
 | met f y=>
  have e:h.get? a=some (PySem.W.methodObj (.ref f) (.ref y)):=x
  show h'.get? a=some (PySem.W.methodObj (.ref f) (.ref y))
  exact k a _ (.inl rfl) e
 | ext φ=>obtain ⟨p,⟨o,e⟩,st⟩:=x;exact ⟨st _ _ p fun o q=>k _ _ (.inl rfl) q,⟨o,k _ _ (.inl rfl) e⟩,st⟩
theorem HOk.lt (x:HOk P w H h) (e:H a=some o):a < h.objs.size:=(x a o e).lt
theorem HOk.fresh (x:HOk P w H h) (e:h.objs.size<=a):H a=none:=by
 cases q:H a with
 | none=>rfl
 | some u=>exact absurd (Nat.lt_of_lt_of_le (x.lt q) e) (Nat.lt_irrefl _)
theorem HOk.kept (x:HOk P w H h) (k:∀ b u,h.get? b=some u->h'.get? b=some u):HOk P w H h':=fun a o e=>
 (x a o e).stay (fun b u _ q=>k b u q) (fun _ q=>q) fun _ _ q=>q
theorem HOk.laid (x:HOk P w H h) (k:∀ b u,h.get? b=some u->h'.get? b=some u) (hp:h.objs.size<=a) (new:ObjOk P w (upd H a o) h' a o):HOk P w (upd H a o) h':=fun b u e=>by
 have hn:=x.fresh hp
 by_cases hb:b=a
 ·subst hb;rw [upd_same] at e;cases e;exact new
 ·rw [upd_ne hb] at e
  exact (x b u e).stay (fun c v _ q=>k c v q) (fun c q=>by rw [upd_ne (ne_of_none q hn)];exact q) fun c xs q=>by rw [upd_ne (ne_of_none q hn)];exact q
end
def Rd (H:Hp) (a:Addr) (u:HO):Prop:=H a=some u\/∃ o,H a=some (.frz o u)
theorem Rd.ok {P:Program} {w:World} {H:Hp} {h:Heap} {a:Addr} {u:HO} (r:Rd H a u) (x:HOk P w H h):ObjOk P w H h a u:=by
 rcases r with r | ⟨o,r⟩
 ·exact x a u r
 ·obtain ⟨_,q⟩:=x a _ r
  exact q
def Mut:Option HO->Prop
 | some (.lst _)=>True
 | some (.dK _)=>True
 | some (.dT _)=>True
 | some (.set _ _)=>True
 | some (.ins _ _ _)=>True
 | some (.ext _)=>True
 | _=>False
section
variable {P:Program} {w:World} {H:Hp} {h h':Heap} {x e:Addr} {o':HO}
theorem HOk.write (ok:HOk P w H h) (mu:Mut (H x)) (he:e=x\/H e=some (.own x)) (k:∀ b u,b ≠ e->h.get? b=some u->h'.get? b=some u) (heo:∃ u,h'.get? e=some u)
  (new:ObjOk P w (upd H x o') h' x o'):HOk P w (upd H x o') h':=fun b u q=>by
 have nown:∀ c y,H c=some (.own y)->c ≠ x:=fun c y r z=>by subst z;rw [r] at mu;exact mu
 have ntup:∀ c xs,H c=some (.tup xs)->c ≠ x:=fun c xs r z=>by subst z;rw [r] at mu;exact mu
 by_cases hb:b=x
 ·subst hb;rw [upd_same] at q;cases q;exact new
 ·rw [upd_ne hb] at q
  by_cases hbe:b=e
  ·have q':H b=some (.own x):=by
    rcases he with z | z
    ·exact absurd (hbe.trans z) hb
    ·rw [hbe];exact z
   rw [q] at q';cases q'
   obtain ⟨v,hv⟩:=heo
   exact ⟨v,by rw [hbe];exact hv⟩
  ·refine (ok b u q).stay (fun c v hc r=>k c v ?_ r) (fun c r=>by rw [upd_ne (nown c b r)];exact r) fun c xs r=>by rw [upd_ne (ntup c xs r)];exact r
   rcases hc with rfl | hc
   ·exact hbe
   ·rintro rfl
    rcases he with z | z
    ·exact nown c b hc z
    ·rw [hc] at z;cases z;exact hb rfl
end
structure Un (fs ex:List Addr) (H H':Hp) (h h':Heap):Prop where
 keep:∀ b o,h.get? b=some o->H b=none->b ∉ fs->b ∉ ex->h'.get? b=some o
 slot:∀ b o,h.get? b=some o->H b=none->b ∈ fs->b ∉ ex->∃ sl,h'.get? b=some { o with slots:=sl }
 free:∀ b o,h.get? b=some o->H b=none->b ∉ ex->H' b=none
 there:∀ b o,h.get? b=some o->b ∉ ex->∃ o',h'.get? b=some o'
 tups:∀ b xs,H b=some (.tup xs)->H' b=some (.tup xs)
 frzs:∀ b o u,H b=some (.frz o u)->H' b=some (.frz o u)
 tbls:∀ b ps,H b=some (.tbl ps)->∃ more,H' b=some (.tbl (ps++more))
section
variable {fs fs' ex ex':List Addr} {H H1 H2:Hp} {h h1 h2 h':Heap} {a x e:Addr} {o:HO}
theorem Un.any (u:Un fs ex H H1 h h1) {b:Addr} {ob:Obj} (q:h.get? b=some ob) (n:H b=none) (hx:b ∉ ex):∃ sl,h1.get? b=some { ob with slots:=sl }:=by
 by_cases hb:b ∈ fs
 ·exact u.slot b ob q n hb hx
 ·exact ⟨ob.slots,u.keep b ob q n hb hx⟩
theorem Un.kept (k:∀ b u,h.get? b=some u->h'.get? b=some u):Un fs ex H H h h':=
 ⟨fun b ob q _ _ _=>k b ob q,fun b ob q _ _ _=>⟨ob.slots,k b ob q⟩,fun _ _ _ n _=>n,fun b ob q _=>⟨ob,k b ob q⟩,fun _ _ q=>q,fun _ _ _ q=>q,fun _ ps q=>⟨#[],by rw [q];simp⟩⟩
theorem Un.refl:Un fs ex H H h h:=Un.kept fun _ _ q=>q
theorem Un.laid (k:∀ b u,h.get? b=some u->h'.get? b=some u) (hp:h.objs.size<=a) (hn:H a=none):Un fs ex H (upd H a o) h h' where
 keep:=fun b u q _ _ _=>k b u q
 slot:=fun b u q _ _ _=>⟨u.slots,k b u q⟩
 free:=fun b u q n _=>by rw [upd_ne (Nat.ne_of_lt (Nat.lt_of_lt_of_le (Heap.lt_size q) hp))];exact n
 there:=fun b u q _=>⟨u,k b u q⟩
 tups:=fun b xs q=>by rw [upd_ne (ne_of_none q hn)];exact q
 frzs:=fun b u xs q=>by rw [upd_ne (ne_of_none q hn)];exact q
 tbls:=fun b ps q=>⟨#[],by rw [upd_ne (ne_of_none q hn),q];simp⟩
theorem Un.write (mu:Mut (H x)) (he:e=x\/H e=some (.own x)) (k:∀ b u,b ≠ e->h.get? b=some u->h'.get? b=some u) (heo:∃ u,h'.get? e=some u):Un fs ex H (upd H x o) h h':=by
 have hx:∀ b,H b=none->b ≠ x:=fun b n z=>by subst z;rw [n] at mu;exact mu
 have hb:∀ b,H b=none->b ≠ e:=fun b n z=>by
  subst z
  rcases he with r | r
  ·exact hx b n r
  ·rw [n] at r;cases r
 have hm:∀ b u,H b=some u->¬ Mut (some u)->b ≠ x:=fun b u q nm z=>by subst z;rw [q] at mu;exact nm mu
 refine ⟨fun b u q n _ _=>k b u (hb b n) q,fun b u q n _ _=>⟨u.slots,k b u (hb b n) q⟩,fun b u q n _=>by rw [upd_ne (hx b n)];exact n,fun b u q _=>?_,
  fun b xs q=>by rw [upd_ne (hm b _ q fun z=>z)];exact q,fun b u xs q=>by rw [upd_ne (hm b _ q fun z=>z)];exact q,fun b ps q=>⟨#[],by rw [upd_ne (hm b _ q fun z=>z),q];simp⟩⟩
 by_cases hbe:b=e
 ·subst hbe;exact heo
 ·exact ⟨u,k b u hbe q⟩
end
def trk (h:Heap) (H:Hp):List Addr:=(List.range h.objs.size).filter fun a=>(H a).isSome
def hidT (h:Heap) (H:Hp):Heap:=PySem.W.hideAll h (trk h H)
theorem hidT_size (h:Heap) (H:Hp):(hidT h H).objs.size=h.objs.size:=PySem.W.hideAll_size _ _
theorem hidT_get {h:Heap} {H:Hp} {b:Addr} {o:Obj} (e:h.get? b=some o) (n:H b=none):(hidT h H).get? b=some o:=
 PySem.W.hideAll_get _ e fun hm=>by
  have q:(H b).isSome=true:=(List.mem_filter.mp hm).2
  rw [n] at q;simp at q
theorem of_hidT {h:Heap} {H:Hp} {b:Addr} {o:Obj} (e:(hidT h H).get? b=some o):h.get? b=some o/\H b=none:=by
 have e':h.get? b=some o:=PySem.W.of_hideAll (trk h H) e
 refine ⟨e',?_⟩
 cases q:H b with
 | none=>rfl
 | some x=>
  have hm:b ∈ trk h H:=List.mem_filter.mpr ⟨List.mem_range.mpr (Heap.lt_size e'),by simp [q]⟩
  have z:(hidT h H).get? b=none:=PySem.W.hideAll_none (trk h H) hm
  rw [z] at e;cases e
end L2
namespace L2
open PySem PySem.Spec PyProof.Rows
structure Mod (K:PySem.W.Frag) (mg:Str->Option Value) (base:Heap):Prop where
 kin:K.In base
 glob:base.Ns mainGlobals mg
 blt:∃ mb,base.Ns builtinsNs mb/\∀ x:Str,x ≠ "__name__"->mb x=bootBuiltins x
 nolimit:base.NoLimit
structure Cx where
 prog:Program
 w:World
 K:PySem.W.Frag
 mg:Str->Option Value
 base:Heap
 A:Around
 N:List Str
 s₀:Shared
 H₀:Hp
 env:Env
 outer:List Env
 stack:List Env
 ex:List Addr
 fn:Str->Bool
 calm:Bool
 pn:List (Addr × Obj)
 xe:Value->Shared->Prop
def frs (l:List Env):List Addr:=l.filterMap (·.frame)
abbrev Cx.fs (X:Cx):List Addr:=frs X.outer
def Vis (sc:Scope) (x:Str):Prop:=sc.names.lookup x=some .local\/sc.names.lookup x=some .cell\/sc.names.lookup x=some .free
def Loc (sc:Scope) (x:Str):Prop:=sc.names.lookup x=some .local\/sc.names.lookup x=some .cell
def Look (env:Env) (h:Heap) (m:Str->Option Value) (x:Str) (u:Value):Prop:=
 (env.kindOf x=some .local/\m x=some u)\/((env.kindOf x=some .cell\/env.kindOf x=some .free)/\∃ c,env.cells.lookup x=some c/\h.IsCell c (some u))
structure Cx.Ok (X:Cx):Prop where
 mod:Mod X.K X.mg X.base
 kind:X.env.scope.kind=.function
 glob:X.env.globals=mainGlobals
 blt:X.env.builtins=builtinsNs
 above:X.s₀.heap.objs.size<=X.env.locals
 inj:∀ x y c,X.env.cells.lookup x=some c->X.env.cells.lookup y=some c->x=y
 has:∀ x,(X.env.kindOf x=some .cell\/X.env.kindOf x=some .free)->∃ c,X.env.cells.lookup x=some c
 cab:∀ x c,X.fn x=true->X.env.cells.lookup x=some c->X.s₀.heap.objs.size<=c
 hd:X.calm=true->X.A.handled=none
 frames:X.A.frames=some X.stack
 stk:X.stack=X.outer\/(X.stack=X.env :: X.outer/\X.env.frame=some X.env.locals)
 exf:∀ b ∈ X.ex,b ≠ X.env.locals/\∀ x c,X.env.cells.lookup x=some c->c ≠ b
 bs:∀ b o,X.base.get? b=some o->X.s₀.heap.get? b=some o/\X.H₀ b=none
 bsz:X.base.objs.size<=X.s₀.heap.objs.size
 noex:∀ b o,X.base.get? b=some o->b ∉ X.ex
 exfs:∀ b ∈ X.ex,b ∉ X.fs
 funs:X.s₀.heap.FunFrames X.base X.outer
 frf:∀ b ∈ X.fs,X.H₀ b=none
structure Inv (X:Cx) (pins:List (Addr × Obj)) (σ:List (Option V)) (H:Hp) (s:Shared):Prop where
 ok:X.Ok
 os:s.os=X.s₀.os
 bare:AllBare s.gens
 base:Un X.fs X.ex X.H₀ H X.s₀.heap s.heap
 loc:∃ m,s.heap.Ns X.env.locals m/\∀ (i:Nat) (x:Str) (v:V),X.N[i]?=some x->σ[i]?=some (some v)->Vis X.env.scope x->∃ u,RelV v u/\Look X.env s.heap m x u
 cell:∀ x c,X.env.cells.lookup x=some c->∃ v,s.heap.IsCell c v
 free:H X.env.locals=none
 freeC:∀ x c,X.env.cells.lookup x=some c->H c=none
 pin:∀ p ∈ X.pn++pins,s.heap.get? p.1=some p.2/\H p.1=none/\p.1 ≠ X.env.locals/\p.1 ∉ X.fs/\∀ v,p.2.data ≠ .cell v
 hok:HOk X.prog X.w H s.heap
 len:σ.length=X.N.length
section
variable {X:Cx} {pins:List (Addr × Obj)} {σ:List (Option V)} {H H':Hp} {s:Shared} {h':Heap}
theorem Cx.Ok.nofr (ok:X.Ok) {b:Addr} {o:Obj} (e:X.base.get? b=some o):b ∉ X.fs:=fun hb=>by
 have:=(ok.funs.mem hb).1
 rw [e] at this;cases this
theorem Inv.bs (I:Inv X pins σ H s):∀ b o,X.base.get? b=some o->s.heap.get? b=some o/\H b=none:=fun b o e=>
 ⟨I.base.keep b o (I.ok.bs b o e).1 (I.ok.bs b o e).2 (I.ok.nofr e) (I.ok.noex b o e),I.base.free b o (I.ok.bs b o e).1 (I.ok.bs b o e).2 (I.ok.noex b o e)⟩
theorem Inv.bk (I:Inv X pins σ H s):∀ b o,X.base.get? b=some o->s.heap.get? b=some o:=fun b o e=>(I.bs b o e).1
theorem Inv.mod (I:Inv X pins σ H s):Mod X.K X.mg X.base:=I.ok.mod
theorem Inv.kIn (I:Inv X pins σ H s):X.K.In s.heap:=I.ok.mod.kin.keeps I.bk
theorem Inv.lt (I:Inv X pins σ H s):X.env.locals < s.heap.objs.size:=let ⟨_,hn,_⟩:=I.loc;hn.lt
theorem Inv.sz (I:Inv X pins σ H s):X.s₀.heap.objs.size<=s.heap.objs.size:=Nat.le_trans I.ok.above (Nat.le_of_lt I.lt)
theorem Inv.nofs (I:Inv X pins σ H s) {a:Addr} (h:s.heap.objs.size<=a):a ∉ X.fs:=fun hb=>by
 obtain ⟨_,o,ho,_⟩:=I.ok.funs.mem hb
 exact absurd (Nat.lt_of_lt_of_le (Heap.lt_size ho) (Nat.le_trans I.sz h)) (Nat.lt_irrefl _)
theorem Inv.cne (I:Inv X pins σ H s):∀ x c,X.env.cells.lookup x=some c->c ≠ X.env.locals:=fun x c e z=>by
 obtain ⟨v,o,ho,hd⟩:=I.cell x c e
 obtain ⟨m,⟨o',es,ep,ho',hd',_⟩,_⟩:=I.loc
 rw [z,ho'] at ho;cases ho;rw [hd'] at hd;cases hd
theorem Inv.funs (I:Inv X pins σ H s):s.heap.FunFrames X.base X.outer:=by
 have all:∀ (l:List Env),(∀ b ∈ frs l,b ∈ X.fs)->X.s₀.heap.FunFrames X.base l->s.heap.FunFrames X.base l:=by
  intro l
  induction l with
  | nil=>intro _ _;trivial
  | cons env r ih=>
   intro hs hl
   obtain ⟨hk,⟨L,o,hf,hn,ho,hd⟩,hr⟩:=hl
   have hL:L ∈ X.fs:=hs L (by unfold frs;rw [List.filterMap_cons,hf];exact List.mem_cons_self)
   obtain ⟨sl,e⟩:=I.base.slot L o ho (I.ok.frf L hL) hL fun z=>I.ok.exfs L z hL
   exact ⟨hk,⟨L,_,hf,hn,e,hd⟩,ih (fun b hb=>hs b (by unfold frs;rw [List.filterMap_cons,hf];exact List.mem_cons_of_mem _ hb)) hr⟩
 exact all X.outer (fun _ hb=>hb) I.ok.funs
theorem Inv.stack (I:Inv X pins σ H s):s.heap.FunFrames X.base X.stack:=by
 rcases I.ok.stk with e | ⟨e,hf⟩
 ·rw [e];exact I.funs
 ·rw [e]
  obtain ⟨m,hn,_⟩:=I.loc
  refine .cons (by rw [I.ok.kind];decide) hf hn ?_ I.funs
  exact Heap.get?_none_of_le (Nat.le_trans I.ok.bsz I.ok.above)
theorem Inv.stkSub (I:Inv X pins σ H s):∀ b ∈ frs X.stack,b ∈ X.env.locals :: X.fs:=fun b hb=>by
 rcases I.ok.stk with e | ⟨e,hf⟩
 ·rw [e] at hb;exact List.mem_cons_of_mem _ hb
 ·rw [e] at hb
  unfold frs at hb
  rw [List.filterMap_cons,hf] at hb
  exact hb
theorem Inv.stkFree (I:Inv X pins σ H s):∀ b ∈ frs X.stack,H b=none:=fun b hb=>by
 rcases List.mem_cons.mp (I.stkSub b hb) with e | hb
 ·rw [e];exact I.free
 ·obtain ⟨_,o,ho,_⟩:=I.ok.funs.mem hb
  exact I.base.free b o ho (I.ok.frf b hb) fun z=>I.ok.exfs b z hb
theorem Inv.step {g':Array GenState} {t':Nat} {d':Drawn} {ch:List Addr} (I:Inv X pins σ H s)
  (hch:∀ b ∈ ch,(b ∈ X.ex\/X.s₀.heap.objs.size<=b)/\b ≠ X.env.locals/\(∀ x c,X.env.cells.lookup x=some c->c ≠ b)/\∀ p ∈ X.pn++pins,p.1 ≠ b)
  (keep:∀ b o,b ≠ X.env.locals->b ∉ X.fs->b ∉ ch->s.heap.get? b=some o->H b=none->h'.get? b=some o)
  (slot:∀ b o,b ≠ X.env.locals->b ∈ X.fs->b ∉ ch->s.heap.get? b=some o->H b=none->∃ sl,h'.get? b=some { o with slots:=sl }) (free:∀ b o,b ∉ ch->s.heap.get? b=some o->H b=none->H' b=none)
  (there:∀ b o,b ∉ ch->s.heap.get? b=some o->∃ o',h'.get? b=some o')
  (tups:∀ b xs,H b=some (.tup xs)->H' b=some (.tup xs)) (frzs:∀ b o u,H b=some (.frz o u)->H' b=some (.frz o u)) (tbls:∀ b ps,H b=some (.tbl ps)->∃ more,H' b=some (.tbl (ps++more)))
  (ns:∀ m,s.heap.Ns X.env.locals m->h'.Ns X.env.locals m) (hok:HOk X.prog X.w H' h') (hg:AllBare g') :
  Inv X pins σ H' { s with heap:=h',gens:=g',drawn:=d',toks:=t' }:=by
 have neL:∀ b o,X.s₀.heap.get? b=some o->b ≠ X.env.locals:=fun b o e=>Nat.ne_of_lt (Nat.lt_of_lt_of_le (Heap.lt_size e) I.ok.above)
 have neC:∀ b o,X.s₀.heap.get? b=some o->b ∉ X.ex->b ∉ ch:=fun b o e hx hb=>by
  rcases (hch b hb).1 with z | z
  ·exact hx z
  ·exact absurd (Nat.lt_of_lt_of_le (Heap.lt_size e) z) (Nat.lt_irrefl _)
 have cellK:∀ x c,X.env.cells.lookup x=some c->∀ v,s.heap.IsCell c v->h'.IsCell c v:=fun x c e v ⟨o,ho,hd⟩=>by
  have nch:c ∉ ch:=fun z=>(hch c z).2.2.1 x c e rfl
  by_cases hc:c ∈ X.fs
  ·obtain ⟨sl,q⟩:=slot c o (I.cne x c e) hc nch ho (I.freeC x c e)
   exact ⟨_,q,hd⟩
  ·exact ⟨o,keep c o (I.cne x c e) hc nch ho (I.freeC x c e),hd⟩
 refine ⟨I.ok,I.os,hg,⟨fun b o e n hb hx=>?_,fun b o e n hb hx=>?_,fun b o e n hx=>?_,fun b o e hx=>?_,fun b xs e=>tups b xs (I.base.tups b xs e),fun b o xs e=>frzs b o xs (I.base.frzs b o xs e),fun b ps e=>?_⟩,?_,fun x c e=>?_,?_,fun x c e=>?_,fun p hp=>?_,hok,I.len⟩
 ·exact keep b o (neL b o e) hb (neC b o e hx) (I.base.keep b o e n hb hx) (I.base.free b o e n hx)
 ·obtain ⟨sl,e1⟩:=I.base.slot b o e n hb hx
  obtain ⟨sl',e2⟩:=slot b _ (neL b o e) hb (neC b o e hx) e1 (I.base.free b o e n hx)
  exact ⟨sl',e2⟩
 ·obtain ⟨o',e1⟩:=I.base.there b o e hx
  exact free b o' (neC b o e hx) e1 (I.base.free b o e n hx)
 ·obtain ⟨o',e1⟩:=I.base.there b o e hx
  exact there b o' (neC b o e hx) e1
 ·obtain ⟨m1,e1⟩:=I.base.tbls b ps e
  obtain ⟨m2,e2⟩:=tbls b _ e1
  exact ⟨m1++m2,by rw [e2,Array.append_assoc]⟩
 ·obtain ⟨m,hn,hl⟩:=I.loc
  refine ⟨m,ns m hn,fun i x v e1 e2 e3=>?_⟩
  obtain ⟨u,r,l⟩:=hl i x v e1 e2 e3
  refine ⟨u,r,?_⟩
  rcases l with l | ⟨k,c,e,z⟩
  ·exact .inl l
  ·exact .inr ⟨k,c,e,cellK x c e _ z⟩
 ·obtain ⟨v,z⟩:=I.cell x c e
  exact ⟨v,cellK x c e v z⟩
 ·obtain ⟨m,⟨o,_,_,ho,_⟩,_⟩:=I.loc
  exact free _ o (fun z=>(hch _ z).2.1 rfl) ho I.free
 ·obtain ⟨v,o,ho,hd⟩:=I.cell x c e
  exact free c o (fun z=>(hch c z).2.2.1 x c e rfl) ho (I.freeC x c e)
 ·obtain ⟨e,n,ne,nf,d⟩:=I.pin p hp
  have nch:p.1 ∉ ch:=fun z=>(hch p.1 z).2.2.2 p hp rfl
  exact ⟨keep p.1 p.2 ne nf nch e n,free p.1 p.2 nch e n,ne,nf,d⟩
theorem Inv.un {t':Nat} (I:Inv X pins σ H s) (u:Un X.fs [] H H' s.heap h') (hok:HOk X.prog X.w H' h'):Inv X pins σ H' { s with heap:=h',toks:=t' }:=by
 obtain ⟨m,⟨o,es,ep,ho,r⟩,_⟩:=id I.loc
 obtain ⟨sl,hL⟩:=u.any ho I.free (by simp)
 exact I.step (g':=s.gens) (d':=s.drawn) (ch:=[]) (fun _ z=>nomatch z) (fun b o _ hb _ e n=>u.keep b o e n hb (by simp)) (fun b o _ hb _ e n=>u.slot b o e n hb (by simp)) (fun b o _ e n=>u.free b o e n (by simp)) (fun b o _ e=>u.there b o e (by simp)) u.tups u.frzs u.tbls (fun m' hm=>by
  obtain ⟨o',es',ep',ho',r'⟩:=hm
  rw [ho] at ho';cases ho'
  exact ⟨_,es',ep',hL,r'⟩) hok I.bare
theorem Inv.call {g':Array GenState} {t':Nat} {d':Drawn} {ch:List Addr} (I:Inv X pins σ H s) (u:Un (frs X.stack) ch H H' s.heap h') (hok:HOk X.prog X.w H' h') (hg:AllBare g')
  (hch:∀ b ∈ ch,(b ∈ X.ex\/X.s₀.heap.objs.size<=b)/\b ≠ X.env.locals/\(∀ x c,X.env.cells.lookup x=some c->c ≠ b)/\∀ p ∈ X.pn++pins,p.1 ≠ b) :
  Inv X pins σ H' { s with heap:=h',gens:=g',drawn:=d',toks:=t' }:=by
 obtain ⟨m,⟨o,es,ep,ho,r⟩,_⟩:=id I.loc
 obtain ⟨sl,hL⟩:=u.any ho I.free fun z=>(hch _ z).2.1 rfl
 exact I.step (ch:=ch) hch (fun b o hL hb hc e n=>u.keep b o e n (fun z=>(List.mem_cons.mp (I.stkSub b z)).elim hL hb) hc) (fun b o _ _ hc e n=>u.any e n hc) (fun b o hc e n=>u.free b o e n hc) (fun b o hc e=>u.there b o e hc) u.tups u.frzs u.tbls (fun m' hm=>by
  obtain ⟨o',es',ep',ho',r'⟩:=hm
  rw [ho] at ho';cases ho'
  exact ⟨_,es',ep',hL,r'⟩) hok hg
theorem Inv.turned {t':Nat} {it:Addr} (I:Inv X pins σ H s) (k:∀ b o,b ≠ it->s.heap.get? b=some o->h'.get? b=some o) (hn:H it=none) (hL:it ≠ X.env.locals)
  (h1:it ∈ X.ex\/X.s₀.heap.objs.size<=it) (h2:∀ x c,X.env.cells.lookup x=some c->c ≠ it) (h3:∀ p ∈ X.pn++pins,p.1 ≠ it):Inv X pins σ H { s with heap:=h',toks:=t' }:=by
 have nit:∀ b u,H b=some u->b ≠ it:=fun b u e z=>by rw [z,hn] at e;cases e
 refine I.step (g':=s.gens) (d':=s.drawn) (ch:=[it]) (fun b hb=>?_) (fun b o _ _ hc e _=>k b o (fun z=>hc (by simp [z])) e) (fun b o _ _ hc e _=>⟨o.slots,k b o (fun z=>hc (by simp [z])) e⟩) (fun _ _ _ _ n=>n)
  (fun b o hc e=>⟨o,k b o (fun z=>hc (by simp [z])) e⟩) (fun _ _ e=>e) (fun _ _ _ e=>e) (fun b ps e=>⟨#[],by rw [e];simp⟩) (fun m hm=>?_) (fun b u e=>?_) I.bare
 ·have e:b=it:=by simpa using hb
  subst e
  exact ⟨h1,hL,h2,h3⟩
 ·obtain ⟨o,es,ep,ho,r⟩:=hm
  exact ⟨o,es,ep,k _ o (Ne.symm hL) ho,r⟩
 ·refine (I.hok b u e).stay (fun c v hc q=>k c v ?_ q) (fun _ q=>q) fun _ _ q=>q
  rcases hc with z | z
  ·rw [z];exact nit b u e
  ·exact nit c _ z
theorem Inv.tok (I:Inv X pins σ H s) (t:Nat):Inv X pins σ H { s with toks:=t }:=I.un (h':=s.heap) (t':=t) Un.refl I.hok
theorem Inv.kept {t':Nat} (I:Inv X pins σ H s) (k:∀ b u,s.heap.get? b=some u->h'.get? b=some u):Inv X pins σ H { s with heap:=h',toks:=t' }:=I.un (Un.kept k) (I.hok.kept k)
theorem Inv.laid {a:Addr} {o:HO} {t':Nat} (I:Inv X pins σ H s) (k:∀ b u,s.heap.get? b=some u->h'.get? b=some u) (hp:s.heap.objs.size<=a) (new:ObjOk X.prog X.w (upd H a o) h' a o) :
  Inv X pins σ (upd H a o) { s with heap:=h',toks:=t' }:=I.un (Un.laid k hp (I.hok.fresh hp)) (I.hok.laid k hp new)
theorem Inv.write {x e:Addr} {o:HO} {t':Nat} (I:Inv X pins σ H s) (mu:Mut (H x)) (he:e=x\/H e=some (.own x)) (k:∀ b u,b ≠ e->s.heap.get? b=some u->h'.get? b=some u) (heo:∃ u,h'.get? e=some u)
  (new:ObjOk X.prog X.w (upd H x o) h' x o):Inv X pins σ (upd H x o) { s with heap:=h',toks:=t' }:=I.un (Un.write mu he k heo) (I.hok.write mu he k heo new)
theorem Inv.pins_of {pins':List (Addr × Obj)} (I:Inv X pins σ H s) (h:∀ p ∈ pins',s.heap.get? p.1=some p.2/\H p.1=none/\p.1 ≠ X.env.locals/\p.1 ∉ X.fs/\∀ v,p.2.data ≠ .cell v):Inv X pins' σ H s:=
 ⟨I.ok,I.os,I.bare,I.base,I.loc,I.cell,I.free,I.freeC,fun p hp=>(List.mem_append.mp hp).elim (fun z=>I.pin p (List.mem_append_left _ z)) (h p),I.hok,I.len⟩
theorem nodup_ix {N:List Str} (hN:N.Nodup) {i j:Nat} {x:Str} (a:N[i]?=some x) (b:N[j]?=some x):i=j:=by
 obtain ⟨h1,e1⟩:=List.getElem?_eq_some_iff.mp a
 obtain ⟨h2,e2⟩:=List.getElem?_eq_some_iff.mp b
 exact (List.getElem_inj hN).mp (e1.trans e2.symm)
theorem store_ok2 {M:Model} {A:Around} {E:Value->Shared->Prop} {i:Nat} {x:Str} {v:V} {u:Value} {Q:Unit->Shared->Prop} (I:Inv X pins σ H s) (hN:X.N.Nodup) (hi:X.N[i]?=some x) (hx:Loc X.env.scope x) (r:RelV v u)
  (h:∀ s',Inv X pins (σ.set i (some v)) H s'->(∃ a,Heap.SameBut a s.heap s'.heap/\(a=X.env.locals\/X.env.cells.lookup x=some a))->Q () s') (hf:X.fn x=true\/X.env.scope.names.lookup x=some .local:=by first | exact .inl rfl | exact .inr rfl | assumption):wpAny M A (storeName X.env x u) Q E s:=by
 obtain ⟨m,hn,hl⟩:=id I.loc
 have hcls:(X.env.scope.kind == .class || (X.env.scope.kind == .module && X.env.locals != X.env.globals))=false:=by rw [I.ok.kind];rfl
 have hiσ:i < σ.length:=by rw [I.len];exact (List.getElem?_eq_some_iff.mp hi).1
 have cne:=I.cne
 have tracked:∀ {a:Addr} {h':Heap},(∃ o,s.heap.get? a=some o/\H a=none)->Heap.SameBut a s.heap h'->HOk X.prog X.w H h':=fun {a h'} ha hs b ob e=>by
  obtain ⟨_,_,hfree⟩:=ha
  refine (I.hok b ob e).stay (fun c w' hc q=>(hs.2 c ?_).trans q) (fun _ q=>q) fun _ _ q=>q
  rintro rfl
  rcases hc with rfl | hc
  ·rw [hfree] at e;cases e
  ·rw [hfree] at hc;cases hc
 rcases hx with hk | hk
 ·refine wpAny_storeName_local hk hn (fun h' hn' hs=>?_) hcls
  obtain ⟨oL,_,_,hoL,_⟩:=id hn
  refine h _ ⟨I.ok,I.os,I.bare,⟨fun b o e n hb hx=>?_,fun b o e n hb hx=>?_,I.base.free,fun b o e hx=>?_,I.base.tups,I.base.frzs,I.base.tbls⟩,⟨_,hn',fun j y v' e1 e2 e3=>?_⟩,fun y c e=>?_,I.free,I.freeC,fun p hp=>?_,tracked ⟨oL,hoL,I.free⟩ hs,by simpa using I.len⟩ ⟨_,hs,.inl rfl⟩
  ·exact (hs.2 b (Nat.ne_of_lt (Nat.lt_of_lt_of_le (Heap.lt_size e) I.ok.above))).trans (I.base.keep b o e n hb hx)
  ·obtain ⟨sl,e1⟩:=I.base.slot b o e n hb hx
   exact ⟨sl,(hs.2 b (Nat.ne_of_lt (Nat.lt_of_lt_of_le (Heap.lt_size e) I.ok.above))).trans e1⟩
  ·obtain ⟨o',e1⟩:=I.base.there b o e hx
   exact ⟨o',(hs.2 b (Nat.ne_of_lt (Nat.lt_of_lt_of_le (Heap.lt_size e) I.ok.above))).trans e1⟩
  ·by_cases hj:j=i
   ·subst hj
    rw [hi] at e1;cases e1
    rw [List.getElem?_set_self hiσ] at e2
    cases e2
    exact ⟨u,r,.inl ⟨hk,by simp⟩⟩
   ·rw [List.getElem?_set_ne (Ne.symm hj)] at e2
    obtain ⟨u',r',q⟩:=hl j y v' e1 e2 e3
    refine ⟨u',r',?_⟩
    rcases q with ⟨k,e⟩ | ⟨k,c,e,z⟩
    ·refine .inl ⟨k,?_⟩
     have:y ≠ x:=fun e=>hj (nodup_ix hN e1 (e ▸ hi))
     simp [this,e]
    ·exact .inr ⟨k,c,e,z.sameBut hs (cne y c e)⟩
  ·obtain ⟨w',z⟩:=I.cell y c e
   exact ⟨w',z.sameBut hs (cne y c e)⟩
  ·obtain ⟨e,n,ne,nf,d⟩:=I.pin p hp
   exact ⟨(hs.2 p.1 ne).trans e,n,ne,nf,d⟩
 ·have hfn:X.fn x=true:=by
   rcases hf with z | z
   ·exact z
   ·rw [z] at hk;cases hk
  obtain ⟨c,hc⟩:=I.ok.has x (.inl hk)
  obtain ⟨w',z⟩:=I.cell x c hc
  refine wpAny_storeName_cell I.ok.kind hk hc z (fun h' hc' hs=>?_)
  obtain ⟨oc,hoc,hocd⟩:=id z
  refine h { s with heap:=h' } ⟨I.ok,I.os,I.bare,⟨fun b o e n hb hx=>?_,fun b o e n hb hx=>?_,I.base.free,fun b o e hx=>?_,I.base.tups,I.base.frzs,I.base.tbls⟩,⟨m,hn.sameBut hs (Ne.symm (cne x c hc)),fun j y v' e1 e2 e3=>?_⟩,fun y c' e=>?_,I.free,I.freeC,fun p hp=>?_,tracked ⟨oc,hoc,I.freeC x c hc⟩ hs,by simpa using I.len⟩ ⟨c,hs,.inr hc⟩
  ·exact (hs.2 b (Nat.ne_of_lt (Nat.lt_of_lt_of_le (Heap.lt_size e) (I.ok.cab x c hfn hc)))).trans (I.base.keep b o e n hb hx)
  ·obtain ⟨sl,e1⟩:=I.base.slot b o e n hb hx
   exact ⟨sl,(hs.2 b (Nat.ne_of_lt (Nat.lt_of_lt_of_le (Heap.lt_size e) (I.ok.cab x c hfn hc)))).trans e1⟩
  ·obtain ⟨o',e1⟩:=I.base.there b o e hx
   exact ⟨o',(hs.2 b (Nat.ne_of_lt (Nat.lt_of_lt_of_le (Heap.lt_size e) (I.ok.cab x c hfn hc)))).trans e1⟩
  ·by_cases hj:j=i
   ·subst hj
    rw [hi] at e1;cases e1
    rw [List.getElem?_set_self hiσ] at e2
    cases e2
    exact ⟨u,r,.inr ⟨.inl hk,c,hc,hc'⟩⟩
   ·rw [List.getElem?_set_ne (Ne.symm hj)] at e2
    obtain ⟨u',r',q⟩:=hl j y v' e1 e2 e3
    refine ⟨u',r',?_⟩
    rcases q with q | ⟨k,c',e,z'⟩
    ·exact .inl q
    ·refine .inr ⟨k,c',e,z'.sameBut hs ?_⟩
     rintro rfl
     exact hj (nodup_ix hN e1 (I.ok.inj _ _ _ e hc ▸ hi))
  ·by_cases hcc:c'=c
   ·subst hcc;exact ⟨_,hc'⟩
   ·obtain ⟨w2,z2⟩:=I.cell y c' e
    exact ⟨w2,z2.sameBut hs hcc⟩
  ·obtain ⟨e,n,ne,nf,d⟩:=I.pin p hp
   refine ⟨(hs.2 p.1 ?_).trans e,n,ne,nf,d⟩
   intro q
   rw [q,hoc] at e
   have q':oc=p.2:=Option.some.inj e
   exact d w' (by rw [<-q'];exact hocd)
theorem store_ok {M:Model} {A:Around} {E:Value->Shared->Prop} {i:Nat} {x:Str} {v:V} {u:Value} {Q:Unit->Shared->Prop} (I:Inv X pins σ H s) (hN:X.N.Nodup) (hi:X.N[i]?=some x) (hx:Loc X.env.scope x) (r:RelV v u)
  (h:∀ s',Inv X pins (σ.set i (some v)) H s'->Q () s') (hf:X.fn x=true\/X.env.scope.names.lookup x=some .local:=by first | exact .inl rfl | exact .inr rfl | assumption):wpAny M A (storeName X.env x u) Q E s:=
 store_ok2 I hN hi hx r (fun s' I' _=>h s' I') hf
theorem Inv.call' {s':Shared} {ch:List Addr} (I:Inv X pins σ H s) (ho:s'.os=s.os) (u:Un (frs X.stack) ch H H' s.heap s'.heap) (hok:HOk X.prog X.w H' s'.heap) (hg:AllBare s'.gens)
  (hch:∀ b ∈ ch,(b ∈ X.ex\/X.s₀.heap.objs.size<=b)/\b ≠ X.env.locals/\(∀ x c,X.env.cells.lookup x=some c->c ≠ b)/\∀ p ∈ X.pn++pins,p.1 ≠ b):Inv X pins σ H' s':=by
 obtain ⟨h',g',d',t',o'⟩:=s'
 have e:o'=s.os:=ho
 subst e
 exact I.call (g':=g') (t':=t') (d':=d') u hok hg hch
end
abbrev XK:=Value->Option Addr->Hp->Prop
abbrev St:=List (Option V)
abbrev VK:=V->Hp->Prop
abbrev TE:=St->Hp->VK->Prop
abbrev TT:=St->Hp->(Bool->Hp->Prop)->Prop
abbrev TA:=St->Hp->(List V->Hp->Prop)->Prop
structure Ends where
 nx:St->Hp->Prop
 rt:VK
 bk:St->Hp->Prop:=fun _ _=>False
 ct:St->Hp->Prop:=fun _ _=>False
abbrev TS:=Ends->St->Hp->Prop
def EP (X:Cx) (pins:List (Addr × Obj)) (σ:St) (Q:VK) (u:Value) (s':Shared):Prop:=∃ v H',Inv X pins σ H' s'/\RelV v u/\Q v H'
def TP (X:Cx) (pins:List (Addr × Obj)) (σ:St) (Q:Bool->Hp->Prop) (b:Bool) (s':Shared):Prop:=∃ H',Inv X pins σ H' s'/\Q b H'
def AP (X:Cx) (pins:List (Addr × Obj)) (σ:St) (Q:List V->Hp->Prop) (us:List Value) (s':Shared):Prop:=∃ vs H',Inv X pins σ H' s'/\Vals vs us/\Q vs H'
def SP (X:Cx) (pins:List (Addr × Obj)) (D:Ends) (f:Flow) (s':Shared):Prop:=
 match f with
 | .next=>∃ σ' H',Inv X pins σ' H' s'/\D.nx σ' H'
 | .brk=>∃ σ' H',Inv X pins σ' H' s'/\D.bk σ' H'
 | .cont=>∃ σ' H',Inv X pins σ' H' s'/\D.ct σ' H'
 | .ret u=>∃ v σ' H',Inv X pins σ' H' s'/\RelV v u/\D.rt v H'
def PE (X:Cx) (e:Expr) (t:TE):Prop:=
 ∀ (pins:List (Addr × Obj)) (s:Shared) (σ:St) (H:Hp) (Q:VK),Inv X pins σ H s->t σ H Q->wpAny (model X.prog X.w) X.A (eval e X.env) (EP X pins σ Q) X.xe s
def PT (X:Cx) (e:Expr) (t:TT):Prop:=
 ∀ (pins:List (Addr × Obj)) (s:Shared) (σ:St) (H:Hp) (Q:Bool->Hp->Prop),Inv X pins σ H s->t σ H Q->wpAny (model X.prog X.w) X.A (isTrue e X.env (eval e X.env)) (TP X pins σ Q) X.xe s
def PW (X:Cx) (e:Expr) (t:TT):Prop:=
 ∀ (whole:Sem Value) (pins:List (Addr × Obj)) (s:Shared) (σ:St) (H:Hp) (Q:Bool->Hp->Prop),Inv X pins σ H s->t σ H Q->wpAny (model X.prog X.w) X.A (isTrue e X.env whole) (TP X pins σ Q) X.xe s
theorem PW.pt {X:Cx} {e:Expr} {t:TT} (h:PW X e t):PT X e t:=h _
def PA (X:Cx) (es:List Expr) (t:TA):Prop:=
 ∀ (pos:Pos) (pins:List (Addr × Obj)) (s:Shared) (σ:St) (H:Hp) (Q:List V->Hp->Prop),Inv X pins σ H s->t σ H Q->wpAny (model X.prog X.w) X.A (spliced (backTo pos (starEach es X.env))) (AP X pins σ Q) X.xe s
def PS (X:Cx) (st:Stmt) (t:TS):Prop:=
 ∀ (pins:List (Addr × Obj)) (s:Shared) (σ:St) (H:Hp) (D:Ends),Inv X pins σ H s->t D σ H->wpAny (model X.prog X.w) X.A (exec st X.env) (SP X pins D) X.xe s
def PSs (X:Cx) (st:List Stmt) (t:TS):Prop:=
 ∀ (pins:List (Addr × Obj)) (s:Shared) (σ:St) (H:Hp) (D:Ends),Inv X pins σ H s->t D σ H->wpAny (model X.prog X.w) X.A (execs st X.env) (SP X pins D) X.xe s
theorem thn {α:Type} {t:Sem α} {Q Q':α->Shared->Prop} {M:Model} {A:Around} {E:Value->Shared->Prop} {s:Shared} (h:wpAny M A t Q E s) (hQ:∀ a s,Q a s->Q' a s):wpAny M A t Q' E s:=wpAny_mono h hQ fun _ _ x=>x
end L2
namespace L2
open PySem PySem.Spec PyProof.Rows
section
variable {X:Cx}
def tVar (i:Nat):TE:=fun σ H Q=>∃ v,σ[i]?=some (some v)/\Q v H
def tC (v:V):TE:=fun _ H Q=>Q v H
theorem pe_var {i:Nat} {x:Str} {pos:Pos} (hN:X.N[i]?=some x) (hv:Vis X.env.scope x) (hd:(x == ("__debug__" : Str))=false:=by decide) (hcd:(x == ("__classdict__" : Str))=false:=by decide):PE X (.Name x pos) (tVar i):=by
 intro pins s σ H Q I h
 obtain ⟨v,e,h⟩:=h
 obtain ⟨m,hn,hl⟩:=I.loc
 obtain ⟨u,r,l⟩:=hl i x v hN e hv
 have fin:EP X pins σ Q u s:=⟨v,H,I,r,h⟩
 rcases l with ⟨hk,hm⟩ | ⟨hk,c,hc,hcell⟩
 ·exact wpAny_Name (wpAny_loadName_local I.ok.kind hk hn hm fin) hd
 ·rcases hk with hk | hk
  ·exact wpAny_Name (wpAny_loadName_cell I.ok.kind hk hc hcell fin) hd
  ·exact wpAny_Name (wpAny_loadName_free I.ok.kind hk hc hcell fin hcd) hd
theorem pe_int {i j pos}:PE X (.Constant (.int i) j pos) (tC (.int i)):=fun _ _ _ H _ I h=>wpAny_Constant_int ⟨.int i,H,I.tok _,⟨_,rfl⟩,h⟩
theorem pe_bl {b j pos}:PE X (.Constant (.bool b) j pos) (tC (.bl b)):=fun _ _ _ H _ I h=>Constant_bool ⟨.bl b,H,I,rfl,h⟩
theorem pe_non {j pos}:PE X (.Constant .none j pos) (tC .non):=fun _ _ _ H _ I h=>Constant_none ⟨.non,H,I,rfl,h⟩
theorem pe_str {x j pos}:PE X (.Constant (.str x) j pos) (tC (.str x)):=fun _ _ _ H _ I h=>Calls.Constant_str ⟨.str x,H,I.tok _,⟨_,rfl⟩,h⟩
def Gl (X:Cx) (x:Str):Prop:=X.env.kindOf x=some .globalImplicit
theorem ld_glob {E:Value->Shared->Prop} {pins:List (Addr × Obj)} {s:Shared} {σ:St} {H:Hp} {x:Str} {u:Value} {pos:Pos} {Q:Value->Shared->Prop} (I:Inv X pins σ H s) (hg:Gl X x) (hm:X.mg x=some u) (h:Q u s)
  (hd:(x == ("__debug__" : Str))=false:=by decide):wpAny (model X.prog X.w) X.A (eval (.Name x pos) X.env) Q E s:=
 Calls.Name_function_global I.ok.kind hg (Calls.loadGlobal_global (by rw [I.ok.glob];exact I.mod.glob.keeps I.bk) hm h) hd
theorem ld_blt {E:Value->Shared->Prop} {pins:List (Addr × Obj)} {s:Shared} {σ:St} {H:Hp} {x:Str} {u:Value} {pos:Pos} {Q:Value->Shared->Prop} (I:Inv X pins σ H s) (hg:Gl X x) (hm:X.mg x=none) (hv:bootBuiltins x=some u) (h:Q u s)
  (hn:x ≠ "__name__" := by decide) (hd:(x == ("__debug__" : Str))=false:=by decide):wpAny (model X.prog X.w) X.A (eval (.Name x pos) X.env) Q E s:=by
 obtain ⟨mb,h1,h2⟩:=I.mod.blt
 exact Calls.Name_function_global I.ok.kind hg (Calls.loadGlobal_builtin (by rw [I.ok.glob];exact I.mod.glob.keeps I.bk) hm (by rw [I.ok.blt];exact h1.keeps I.bk) ((h2 x hn).trans hv) h) hd
theorem pe_glob {x:Str} {v:V} {u:Value} {pos:Pos} (hg:Gl X x) (hm:X.mg x=some u) (r:RelV v u) (hd:(x == ("__debug__" : Str))=false:=by decide):PE X (.Name x pos) (tC v):=
 fun _ _ _ H _ I h=>ld_glob I hg hm ⟨v,H,I,r,h⟩ hd
theorem pe_bltn {x:Str} {v:V} {u:Value} {pos:Pos} (hg:Gl X x) (hm:X.mg x=none) (hv:bootBuiltins x=some u) (r:RelV v u) (hn:x ≠ "__name__" := by decide) (hd:(x == ("__debug__" : Str))=false:=by decide):PE X (.Name x pos) (tC v):=
 fun _ _ _ H _ I h=>ld_blt I hg hm hv ⟨v,H,I,r,h⟩ hn hd
variable {a b:Expr} {ta tb:TE} {pos:Pos}
def tB (t:TE):TT:=fun σ H Q=>t σ H fun x H1=>∃ c,x=.bl c/\Q c H1
theorem pt_val {e:Expr} {t:TE} (h:PE X e t) (he:∀ whole,isTrue e X.env whole=(do let v <-whole;standAt e.pos;holding [v] (truthy v)):=by intro _;rfl):PT X e (tB t):=by
 intro pins s σ H Q I hw
 refine isTrue_plain (thn (h pins s σ H _ I hw) fun v s1 ⟨x,H1,I1,r1,q1⟩=>?_) (he _)
 obtain ⟨d,rfl,q⟩:=q1
 cases r1
 exact wpAny_truthy_bool ⟨H1,I1,q⟩
variable {tA tB':TT} {rest:List Expr}
def tAnd (t u:TT):TT:=fun σ H Q=>t σ H fun c H1=>if c=true then u σ H1 Q else Q false H1
def tOr (t u:TT):TT:=fun σ H Q=>t σ H fun c H1=>if c=true then Q true H1 else u σ H1 Q
def tNot (t:TT):TT:=fun σ H Q=>t σ H fun c H1=>Q (!c) H1
theorem pw_and1 (ha:PT X a tA):PW X (.BoolOp .And [a] pos) tA:=by
 intro wh pins s σ H Q I h
 refine isTrue_and (thn (ha pins s σ H Q I h) fun c s1 e=>?_)
 cases c with
 | true=>exact isTrue_and_nil e
 | false=>exact e
theorem pw_or1 (ha:PT X a tA):PW X (.BoolOp .Or [a] pos) tA:=by
 intro wh pins s σ H Q I h
 refine isTrue_or (thn (ha pins s σ H Q I h) fun c s1 e=>?_)
 cases c with
 | false=>exact isTrue_or_nil e
 | true=>exact e
theorem pw_and (ha:PT X a tA) (hb:PW X (.BoolOp .And (b :: rest) pos) tB'):PW X (.BoolOp .And (a :: b :: rest) pos) (tAnd tA tB'):=by
 intro wh pins s σ H Q I h
 refine isTrue_and (thn (ha pins s σ H _ I h) fun c s1 ⟨H1,I1,q1⟩=>?_)
 cases c with
 | true=>exact hb wh pins s1 σ H1 Q I1 q1
 | false=>exact ⟨H1,I1,q1⟩
theorem pw_or (ha:PT X a tA) (hb:PW X (.BoolOp .Or (b :: rest) pos) tB'):PW X (.BoolOp .Or (a :: b :: rest) pos) (tOr tA tB'):=by
 intro wh pins s σ H Q I h
 refine isTrue_or (thn (ha pins s σ H _ I h) fun c s1 ⟨H1,I1,q1⟩=>?_)
 cases c with
 | true=>exact ⟨H1,I1,q1⟩
 | false=>exact hb wh pins s1 σ H1 Q I1 q1
theorem pt_not (ha:PT X a tA):PT X (.UnaryOp .Not a pos) (tNot tA):=by
 intro pins s σ H Q I h
 exact isTrue_not (ha pins s σ H (fun c H1=>Q (!c) H1) I h)
def tAndV (ta tb:TE):TE:=fun σ H Q=>ta σ H fun x H1=>∃ c,x=.bl c/\if c=true then tb σ H1 Q else Q (.bl false) H1
theorem pe_one {op} {t:TE} (h:PE X a t):PE X (.BoolOp op [a] pos) t:=fun pins s σ H Q I hw=>BoolOp_one (h pins s σ H Q I hw)
theorem pe_and (ha:PE X a ta) (hb:PE X (.BoolOp .And (b :: rest) pos) tb):PE X (.BoolOp .And (a :: b :: rest) pos) (tAndV ta tb):=by
 intro pins s σ H Q I h
 refine BoolOp_and (thn (ha pins s σ H _ I h) fun v s1 ⟨x,H1,I1,r1,q1⟩=>?_)
 obtain ⟨c,rfl,q1⟩:=q1
 cases r1
 refine wpAny_truthy_bool ?_
 cases c with
 | true=>exact hb pins s1 σ H1 Q I1 q1
 | false=>exact ⟨.bl false,H1,I1,rfl,q1⟩
def tIf (t:TT) (ta tb:TE):TE:=fun σ H Q=>t σ H fun c H1=>if c=true then ta σ H1 Q else tb σ H1 Q
theorem pe_ifExp {c:Expr} (hc:PT X c tA) (ha:PE X a ta) (hb:PE X b tb):PE X (.IfExp c a b pos) (tIf tA ta tb):=by
 intro pins s σ H Q I h
 refine wpAny_IfExp (thn (hc pins s σ H _ I h) fun d s1 ⟨H1,I1,q1⟩=>?_)
 cases d with
 | true=>exact ha pins s1 σ H1 Q I1 q1
 | false=>exact hb pins s1 σ H1 Q I1 q1
end
end L2
namespace L2
open PySem PySem.Spec PyProof.Rows
def SqL (K:PySem.W.Frag) (H:Hp) (a:Addr) (xs:List V):Prop:=
 Rd H a (.lst xs) ∨
  ∃ (o:Obj) (its:Array Value) (n:Nat),K.lookup a=some o/\o.cls=.type "list"/\o.dict=none/\o.data=.seq its n/\its.size<=sizeLine/\Vals xs its.toList
def SqT (K:PySem.W.Frag) (H:Hp) (a:Addr) (xs:List V):Prop:=
 Rd H a (.tup xs) ∨
  ∃ (o:Obj) (its:Array Value) (n:Nat),K.lookup a=some o/\o.cls=.type "tuple"/\o.data=.seq its n/\its.size<=sizeLine/\Vals xs its.toList
def absV:Value->Option V
 | .none=>some .non
 | .bool b=>some (.bl b)
 | .int i _=>some (.int i)
 | .str x _=>some (.str x)
 | .bytes b _=>some (.byt b)
 | .float b _=>some (.flt b)
 | .ref a=>some (.ref a)
 | .type n=>some (.ty n)
 | _=>none
theorem RelV.abs {x:V} {u:Value} (r:RelV x u):absV u=some x:=by
 cases x with
 | non=>cases r;rfl
 | bl _=>cases r;rfl
 | int _=>obtain ⟨t,rfl⟩:=r;rfl
 | str _=>obtain ⟨t,rfl⟩:=r;rfl
 | byt _=>obtain ⟨t,rfl⟩:=r;rfl
 | flt _=>obtain ⟨t,rfl⟩:=r;rfl
 | ref _=>cases r;rfl
 | ty _=>cases r;rfl
theorem RelV.inj {x y:V} {u:Value} (r:RelV x u) (q:RelV y u):x=y:=Option.some.inj (r.abs.symm.trans q.abs)
theorem Vals.inj:∀ {xs ys:List V} {us:List Value},Vals xs us->Vals ys us->xs=ys
 | _,_,_,.nil,.nil=>rfl
 | _,_,_,.cons r t,.cons r' t'=>by rw [r.inj r',Vals.inj t t']
section
variable {X:Cx} {pins:List (Addr × Obj)} {σ:St} {H:Hp} {s:Shared} {a:Addr} {xs ys:List V}
theorem SqL.of {K:PySem.W.Frag} (h:H a=some (.lst xs)):SqL K H a xs:=.inl (.inl h)
theorem SqT.of {K:PySem.W.Frag} (h:H a=some (.tup xs)):SqT K H a xs:=.inl (.inl h)
theorem Inv.list (I:Inv X pins σ H s) (h:SqL X.K H a xs):∃ its:List Value,Vals xs its/\PlainL s.heap a its.toArray/\xs.length<=sizeLine:=by
 rcases h with h | ⟨o,its,n,hk,hc,hd,hs,hz,r⟩
 ·obtain ⟨z,its,n,r,e⟩:=h.ok I.hok
  exact ⟨its,r,⟨_,n,e,rfl,rfl,rfl⟩,z⟩
 ·refine ⟨its.toList,r,⟨o,n,I.kIn a o hk,hc,hd,by simpa using hs⟩,?_⟩
  have e:=r.length
  simp only [Array.length_toList] at e
  omega
theorem Inv.tuple (I:Inv X pins σ H s) (h:SqT X.K H a xs):∃ its:List Value,Vals xs its/\IsTup s.heap a its.toArray/\xs.length<=sizeLine:=by
 rcases h with h | ⟨o,its,n,hk,hc,hs,hz,r⟩
 ·obtain ⟨z,its,r,p⟩:=h.ok I.hok
  exact ⟨its,r,p,z⟩
 ·refine ⟨its.toList,r,⟨o,I.kIn a o hk,hc,n,by simpa using hs⟩,?_⟩
  have e:=r.length
  simp only [Array.length_toList] at e
  omega
theorem Inv.list_inj (I:Inv X pins σ H s) (h:SqL X.K H a xs) (h':SqL X.K H a ys):xs=ys:=by
 obtain ⟨its,r,⟨o,n,e,_,_,d⟩,_⟩:=I.list h
 obtain ⟨its',r',⟨o',n',e',_,_,d'⟩,_⟩:=I.list h'
 rw [e] at e';cases e'
 rw [d] at d'
 injection d' with d1 _
 have:its=its':=by simpa using congrArg Array.toList d1
 subst this
 exact r.inj r'
theorem Inv.tuple_inj (I:Inv X pins σ H s) (h:SqT X.K H a xs) (h':SqT X.K H a ys):xs=ys:=by
 obtain ⟨its,r,⟨o,e,_,n,d⟩,_⟩:=I.tuple h
 obtain ⟨its',r',⟨o',e',_,n',d'⟩,_⟩:=I.tuple h'
 rw [e] at e';cases e'
 rw [d] at d'
 injection d' with d1 _
 have:its=its':=by simpa using congrArg Array.toList d1
 subst this
 exact r.inj r'
end
abbrev Cx.wish (X:Cx) (E:Value->Shared->Prop):Cx:={ X with xe:=E }
abbrev Cx.nox (X:Cx):Cx:=X.wish fun _ _=>False
theorem Cx.Ok.wish {X:Cx} (ok:X.Ok) (E:Value->Shared->Prop):(X.wish E).Ok:=
 ⟨ok.mod,ok.kind,ok.glob,ok.blt,ok.above,ok.inj,ok.has,ok.cab,ok.hd,ok.frames,ok.stk,ok.exf,ok.bs,ok.bsz,ok.noex,ok.exfs,ok.funs,ok.frf⟩
theorem Cx.Ok.unwish {X:Cx} {E:Value->Shared->Prop} (ok:(X.wish E).Ok):X.Ok:=
 ⟨ok.mod,ok.kind,ok.glob,ok.blt,ok.above,ok.inj,ok.has,ok.cab,ok.hd,ok.frames,ok.stk,ok.exf,ok.bs,ok.bsz,ok.noex,ok.exfs,ok.funs,ok.frf⟩
section
variable {X:Cx} {pins:List (Addr × Obj)} {σ:St} {H:Hp} {s:Shared} {E:Value->Shared->Prop}
theorem Inv.wish (I:Inv X pins σ H s) (E:Value->Shared->Prop):Inv (X.wish E) pins σ H s:=⟨I.ok.wish E,I.os,I.bare,I.base,I.loc,I.cell,I.free,I.freeC,I.pin,I.hok,I.len⟩
theorem Inv.unwish (I:Inv (X.wish E) pins σ H s):Inv X pins σ H s:=⟨I.ok.unwish,I.os,I.bare,I.base,I.loc,I.cell,I.free,I.freeC,I.pin,I.hok,I.len⟩
theorem SP.unwish {D:Ends} {f:Flow} {s':Shared} (h:SP (X.wish E) pins D f s'):SP X pins D f s':=by
 cases f with
 | next=>obtain ⟨σ',H',I,q⟩:=h;exact ⟨σ',H',I.unwish,q⟩
 | brk=>obtain ⟨σ',H',I,q⟩:=h;exact ⟨σ',H',I.unwish,q⟩
 | cont=>obtain ⟨σ',H',I,q⟩:=h;exact ⟨σ',H',I.unwish,q⟩
 | ret u=>obtain ⟨v,σ',H',I,r,q⟩:=h;exact ⟨v,σ',H',I.unwish,r,q⟩
theorem PSs.nox {st:List Stmt} {t:TS} (h:PSs X.nox st t):PSs X st t:=fun pins s σ H D I hw=>
 wpAny_mono (h pins s σ H D (I.wish _) hw) (fun _ _ q=>q.unwish) fun _ _ z=>False.elim z
end
section
variable {X:Cx} {st:Stmt} {rest:List Stmt} {t u:TS} {e:Expr} {te:TE} {pos:Pos}
def tNext:TS:=fun D σ H=>D.nx σ H
def tSeq (t u:TS):TS:=fun D σ H=>t { D with nx:=u D } σ H
theorem pss_nil:PSs X [] tNext:=fun _ _ σ H _ I h=>wpAny_execs_nil ⟨σ,H,I,h⟩
theorem pss_cons (h1:PS X st t) (h2:PSs X rest u):PSs X (st :: rest) (tSeq t u):=by
 intro pins s σ H D I h
 refine wpAny_execs_cons (thn (h1 pins s σ H { D with nx:=u D } I h) fun f s1 q=>?_)
 cases f with
 | next=>
  obtain ⟨σ',H',I',q⟩:=q
  exact h2 pins s1 σ' H' D I' q
 | ret v=>exact q
 | brk=>exact q
 | cont=>exact q
theorem pss_one (h1:PS X st t):PSs X [st] t:=by
 intro pins s σ H D I h
 refine wpAny_execs_cons (thn (h1 pins s σ H D I h) fun f s1 q=>?_)
 cases f with
 | next=>exact wpAny_execs_nil q
 | ret v=>exact q
 | brk=>exact q
 | cont=>exact q
theorem Inv.quiet {pins:List (Addr × Obj)} {σ:St} {H:Hp} {s:Shared} (I:Inv X pins σ H s):interactive X.env=false:=by simp [interactive,I.ok.kind]
def tDrop (te:TE):TS:=fun D σ H=>te σ H fun _ H1=>D.nx σ H1
theorem ps_expr (he:PE X e te) (hs:swapsWith e none pos.line X.env=pure false:=by rfl):PS X (.Expr e pos) (tDrop te):=by
 intro pins s σ H D I h
 exact wpAny_Expr_any (thn (he pins s σ H _ I h) fun v s1 ⟨x,H1,I1,r1,q1⟩=>⟨σ,H1,I1,q1⟩) I.quiet hs
def tRet (te:TE):TS:=fun D σ H=>te σ H D.rt
theorem ps_ret (he:PE X e te):PS X (.Return (some e) pos) (tRet te):=by
 intro pins s σ H D I h
 exact wpAny_Return_some (thn (he pins s σ H _ I h) fun v s1 ⟨x,H1,I1,r1,q1⟩=>⟨x,σ,H1,I1,r1,q1⟩)
def tIfS (c:TT) (t u:TS):TS:=fun D σ H=>c σ H fun b H1=>if b=true then t D σ H1 else u D σ H1
theorem ps_if {c:Expr} {a b:List Stmt} {tc:TT} (hc:PT X c tc) (ha:PSs X a t) (hb:PSs X b u):PS X (.If c a b pos) (tIfS tc t u):=by
 intro pins s σ H D I h
 refine wpAny_If (thn (hc pins s σ H _ I h) fun d s1 ⟨H1,I1,q1⟩=>?_)
 cases d with
 | true=>exact ha pins s1 σ H1 D I1 q1
 | false=>exact hb pins s1 σ H1 D I1 q1
end
abbrev TG:=V->St->Hp->(St->Hp->Prop)->Prop
abbrev TGs:=List V->St->Hp->(St->Hp->Prop)->Prop
def PG (X:Cx) (target:Expr) (t:TG):Prop:=
 ∀ (pins:List (Addr × Obj)) (s:Shared) (σ:St) (H:Hp) (v:V) (u:Value) (Q:St->Hp->Prop),Inv X pins σ H s->RelV v u->t v σ H Q →
  wpAny (model X.prog X.w) X.A (assign target X.env u) (fun _ s'=>∃ σ' H',Inv X pins σ' H' s'/\Q σ' H') X.xe s
def PGs (X:Cx) (ts:List Expr) (t:TGs):Prop:=
 ∀ (pins:List (Addr × Obj)) (s:Shared) (σ:St) (H:Hp) (vs:List V) (us:List Value) (Q:St->Hp->Prop),Inv X pins σ H s->Vals vs us->t vs σ H Q →
  wpAny (model X.prog X.w) X.A (assignInOrder ((assignEach ts X.env).map (·.2)) us) (fun _ s'=>∃ σ' H',Inv X pins σ' H' s'/\Q σ' H') X.xe s
abbrev TSet:=V->V->V->Hp->(Hp->Prop)->Prop
def PSet (X:Cx) (t:TSet):Prop:=
 ∀ (pins:List (Addr × Obj)) (s:Shared) (σ:St) (H:Hp) (o i v:V) (ov iv u:Value) (Q:Hp->Prop),Inv X pins σ H s->RelV o ov->RelV i iv->RelV v u->t o i v H Q →
  wpAny (model X.prog X.w) X.A (setItem ov iv u) (fun _ s'=>∃ H',Inv X pins σ H' s'/\Q H') X.xe s
section
variable {X:Cx} {pos:Pos}
def gName (i:Nat):TG:=fun v σ H Q=>Q (σ.set i (some v)) H
theorem pg_name {i:Nat} {x:Str} (hN:X.N.Nodup) (hi:X.N[i]?=some x) (hx:Loc X.env.scope x) (hf:X.fn x=true\/X.env.scope.names.lookup x=some .local:=by first | exact .inl rfl | exact .inr rfl | assumption):PG X (.Name x pos) (gName i):=by
 intro pins s σ H v u Q I r h
 exact wpAny_assign_Name (store_ok I hN hi hx r (fun s' I'=>⟨_,H,I',h⟩) hf)
def gNil:TGs:=fun vs σ H Q=>vs=[]/\Q σ H
def gCons (t:TG) (u:TGs):TGs:=fun vs σ H Q=>∃ v r,vs=v :: r/\t v σ H fun σ' H'=>u r σ' H' Q
theorem pgs_nil:PGs X [] gNil:=by
 intro pins s σ H vs us Q I r h
 obtain ⟨e,h⟩:=h
 subst e
 cases r
 exact assignInOrder_nil ⟨σ,H,I,h⟩
theorem pgs_cons {e:Expr} {es:List Expr} {t:TG} {u:TGs} (h1:PG X e t) (h2:PGs X es u)
  (hs:(assignEach (e :: es) X.env).map (·.2)=assign e X.env :: (assignEach es X.env).map (·.2):=by rfl):PGs X (e :: es) (gCons t u):=by
 intro pins s σ H vs us Q I r h
 obtain ⟨v,vr,e1,h⟩:=h
 subst e1
 cases r with
 | cons r rr=>
  rw [hs]
  refine assignInOrder_cons (thn (h1 pins s σ H _ _ _ I r h) fun _ s1 ⟨σ1,H1,I1,q1⟩=>?_)
  exact h2 pins s1 σ1 H1 _ _ Q I1 rr q1
def gTup (K:PySem.W.Frag) (n:Nat) (t:TGs):TG:=fun v σ H Q=>∃ a xs,v=.ref a/\SqT K H a xs/\xs.length=n/\t xs σ H Q
theorem pg_tup {es:List Expr} {k:Nat} {t:TGs} {n:Nat} (hc:X.calm=true) (h:PGs X es t)
  (hn:(assignEach es X.env).length=n:=by rfl) (hst:(assignEach es X.env).findIdx? (·.1)=none:=by rfl):PG X (.Tuple es k pos) (gTup X.K n t):=by
 intro pins s σ H v u Q I r hw
 obtain ⟨a,xs,e1,hq,hl,hw⟩:=hw
 subst e1
 cases r
 obtain ⟨its,rv,ht,hz⟩:=I.tuple hq
 refine assign_Tuple_tuple (I.ok.hd hc) ht (by simp [hn,<-hl,rv.length]) hst fun h' hx=>?_
 have I1:Inv X pins σ H { s with heap:=h' }:=I.kept (t':=s.toks) fun b o e=>hx b o (Nat.ne_of_lt (Heap.lt_size e)) e
 exact h pins _ σ H xs _ Q I1 (by simpa using rv) hw
def gSub (to ti:TE) (t:TSet):TG:=fun v σ H Q=>to σ H fun o H1=>ti σ H1 fun i H2=>t o i v H2 fun H3=>Q σ H3
theorem pg_sub {o i:Expr} {to ti:TE} {t:TSet} (ho:PE X o to) (hi:PE X i ti) (hs:PSet X t)
  (ha:∀ v,assign (.Subscript o i pos) X.env v=(do
   let ov <-holding [v] (eval o X.env)
   let iv <-holding [v,ov] (eval i X.env)
   standAt pos
   holding [v,ov,iv] (setItem ov iv v)
   release [v,ov,iv] []):=by intro _;rfl):PG X (.Subscript o i pos) (gSub to ti t):=by
 intro pins s σ H v u Q I r h
 rw [ha]
 refine wpAny_bind (wpAny_holding (thn (ho pins s σ H _ I h) fun ov s1 ⟨x,H1,I1,r1,q1⟩=>?_))
 refine wpAny_bind (wpAny_holding (thn (hi pins s1 σ H1 _ I1 q1) fun iv s2 ⟨y,H2,I2,r2,q2⟩=>?_))
 refine wpAny_bind (wpAny_standAt (wpAny_bind (wpAny_holding (thn (hs pins s2 σ H2 x y v ov iv u _ I2 r1 r2 r q2) fun _ s3 ⟨H3,I3,q3⟩=>?_))))
 exact wpAny_release ⟨σ,H3,I3,q3⟩
def tAsg (te:TE) (g:TG):TS:=fun D σ H=>te σ H fun x H1=>g x σ H1 D.nx
theorem ps_asg {tg e:Expr} {te:TE} {g:TG} (he:PE X e te) (hg:PG X tg g) (hs:swapsWithSole [tg] e pos.line X.env=pure false:=by rfl) (hw:swappedStores [tg] e X.env=pure none:=by rfl)
  (h1:(assignEach [tg] X.env).map (·.2)=[assign tg X.env]:=by rfl):PS X (.Assign [tg] e pos) (tAsg te g):=by
 intro pins s σ H D I h
 refine wpAny_Assign_stores (thn (he pins s σ H _ I h) fun v s1 ⟨x,H1,I1,r1,q1⟩=>?_) hs hw
 rw [h1]
 exact thn (hg pins s1 σ H1 x v _ I1 r1 q1) fun _ s2 q=>q
theorem ps_set {i:Nat} {x:Str} {e:Expr} {te:TE} {pos':Pos} (hN:X.N.Nodup) (hi:X.N[i]?=some x) (hx:Loc X.env.scope x) (he:PE X e te) (hs:swapsWith e (some (.Name x pos')) pos.line X.env=pure false:=by rfl) (hf:X.fn x=true\/X.env.scope.names.lookup x=some .local:=by first | exact .inl rfl | exact .inr rfl | assumption) :
  PS X (.Assign [.Name x pos'] e pos) (tAsg te (gName i)):=by
 intro pins s σ H D I h
 refine wpAny_Assign_Name (thn (he pins s σ H _ I h) fun v s1 ⟨y,H1,I1,r1,q1⟩=>?_) hs
 exact store_ok I1 hN hi hx r1 (fun s2 I2=>⟨_,H1,I2,q1⟩) hf
end
section
variable {X:Cx} {pos:Pos}
def tWhile (c:TT) (tb:TS):TS:=fun D σ H=>∃ W:Nat->St->Hp->Prop,(∃ m,W m σ H)/\∀ m σ H,W m σ H →
 c σ H fun b H1=>if b=true then ∃ N:St->Hp->Prop,(∀ σ' H',N σ' H'->∃ m',m' < m/\W m' σ' H')/\tb { D with nx:=N,ct:=N,bk:=D.nx } σ H1 else D.nx σ H1
theorem ps_while {c:Expr} {body:List Stmt} {tc:TT} {tb:TS} (hp:PassesOwn (model X.prog X.w) X.A X.env X.xe) (hc:PT X c tc) (hb:PSs X body tb):PS X (.While c body [] pos) (tWhile tc tb):=by
 intro pins s σ H D I h
 obtain ⟨W,⟨m0,w0⟩,turn⟩:=h
 refine wpAny_While (codeAny_whileLoop (fun n s'=>∃ σ' H',Inv X pins σ' H' s'/\W n σ' H') ?_ m0 ⟨σ,H,I,w0⟩)
 rintro n s1 ⟨σ1,H1,I1,w1⟩
 refine wpAny_passesOwn hp (thn (hc pins s1 σ1 H1 _ I1 (turn n σ1 H1 w1)) fun b s2 ⟨H2,I2,q2⟩=>?_)
 cases b with
 | true=>
  obtain ⟨N,hN,q2⟩:=q2
  rw [if_pos rfl]
  refine wpAny_passesOwn hp (thn (hb pins s2 σ1 H2 _ I2 q2) fun f s3 q3=>?_)
  cases f with
  | next=>
   obtain ⟨σ3,H3,I3,n3⟩:=q3
   obtain ⟨m',hm,w3⟩:=hN σ3 H3 n3
   exact ⟨m',hm,σ3,H3,I3,w3⟩
  | cont=>
   obtain ⟨σ3,H3,I3,n3⟩:=q3
   obtain ⟨m',hm,w3⟩:=hN σ3 H3 n3
   exact ⟨m',hm,σ3,H3,I3,w3⟩
  | brk=>exact q3
  | ret v=>exact q3
 | false=>
  rw [if_neg Bool.false_ne_true]
  exact wpAny_execs_nil ⟨σ1,H2,I2,q2⟩
end
structure It where
 go:Nat->Hp->Prop
 yld:Nat->Hp->V->Hp->Prop
 stop:Nat->Hp->Prop
def FpOk (X:Cx) (pins:List (Addr × Obj)) (H:Hp) (b:Addr):Prop:=
 H b=none/\b ≠ X.env.locals/\b ∉ X.fs/\(b ∈ X.ex\/X.s₀.heap.objs.size<=b)/\(∀ x c,X.env.cells.lookup x=some c->c ≠ b)/\∀ p ∈ X.pn++pins,p.1 ≠ b
theorem Inv.fpOk {X:Cx} {pins:List (Addr × Obj)} {σ:St} {H H':Hp} {s:Shared} {b:Addr} (I:Inv X pins σ H s) (hb:s.heap.objs.size<=b) (hn:H' b=none):FpOk X pins H' b:=by
 refine ⟨hn,Nat.ne_of_gt (Nat.lt_of_lt_of_le I.lt hb),I.nofs hb,.inr (Nat.le_trans I.sz hb),fun x c e z=>?_,fun p hp z=>?_⟩
 ·obtain ⟨v,q⟩:=I.cell x c e
  exact absurd (Nat.lt_of_lt_of_le q.lt (by rw [z];exact hb)) (Nat.lt_irrefl _)
 ·exact absurd (Nat.lt_of_lt_of_le (Heap.lt_size (I.pin p hp).1) (by rw [z];exact hb)) (Nat.lt_irrefl _)
structure Turn (P:Program) (w:World) (K:PySem.W.Frag) (tg:Expr) (J:It) (fp:List Addr) (it:Addr) (tn:Nat->Heap->Prop):Prop where
 mem:it ∈ fp
 obj:∀ i h,tn i h->∀ b ∈ fp,∃ o,h.get? b=some o/\∀ v,o.data ≠ .cell v
 keep:∀ i h h',tn i h->(∀ b ∈ fp,∀ o,h.get? b=some o->h'.get? b=some o)->tn i h'
 item:∀ (X:Cx),X.prog=P->X.w=w->X.K=K->X.calm=true->∀ (i:Nat) (pins:List (Addr × Obj)) (s:Shared) (σ:St) (H:Hp) (E:Value->Shared->Prop),Inv X pins σ H s->(∀ b ∈ fp,FpOk X pins H b)->tn i s.heap->J.go i H →
  wpAny (model P w) X.A (pyNext (.ref it)) (fun r s1=>∃ u,r=some u ∧
   wpAny (model P w) X.A (letOwnedTupleGo tg (.ref it) u) (fun _ s2=>∃ x H',Inv X pins σ H' s2/\RelV x u/\J.yld i H x H'/\tn (i+1) s2.heap/\∀ b ∈ fp,H' b=none) E s1) E s
 done:∀ (X:Cx),X.prog=P->X.w=w->X.K=K->X.calm=true->∀ (i:Nat) (pins:List (Addr × Obj)) (s:Shared) (σ:St) (H:Hp) (E:Value->Shared->Prop),Inv X pins σ H s->(∀ b ∈ fp,FpOk X pins H b)->tn i s.heap->J.stop i H →
  wpAny (model P w) X.A (pyNext (.ref it)) (fun r s1=>r=none/\Inv X pins σ H s1) E s
 self:∀ (A:Around) (i:Nat) (s:Shared) (Q:Value->Shared->Prop) (E:Value->Shared->Prop),tn i s.heap->Q (.ref it) s->wpAny (model P w) A (pyIter (.ref it)) Q E s
abbrev TI:=St->Hp->(It->Hp->Prop)->Prop
def PIE (X:Cx) (pins:List (Addr × Obj)) (σ:St) (tg:Expr) (R:It->Hp->Prop) (itv:Value) (s2:Shared):Prop:=
 ∃ (it:Addr) (fp:List Addr) (tn:Nat->Heap->Prop) (J:It) (H':Hp),itv=.ref it/\Inv X pins σ H' s2/\Turn X.prog X.w X.K tg J fp it tn/\tn 0 s2.heap/\(∀ b ∈ fp,FpOk X pins H' b)/\R J H'
def PI (X:Cx) (tg iter:Expr) (wi:TI):Prop:=
 ∀ (pins:List (Addr × Obj)) (s:Shared) (σ:St) (H:Hp) (R:It->Hp->Prop),Inv X pins σ H s->wi σ H R →
  wpAny (model X.prog X.w) X.A (eval iter X.env) (fun v s1=>wpAny (model X.prog X.w) X.A (pyIter v) (PIE X pins σ tg R) X.xe s1) X.xe s
theorem go_of {M:Model} {A:Around} {E:Value->Shared->Prop} {s:Shared} {tg:Expr} {it:Addr} {u:Value} {o:Obj} {n:String} {vs:Array Value} {Q:Unit->Shared->Prop} (ho:s.heap.get? it=some o) (hc:o.cls=.type n) (hd:o.data=.fields vs)
    (hn:["enumerate","zip","dict_itemiterator","dict_reverseitemiterator","odict_iterator","itertools.zip_longest","itertools.pairwise"].contains n=false) (hQ:Q () s):wpAny M A (letOwnedTupleGo tg (.ref it) u) Q E s:=by
  unfold letOwnedTupleGo
  cases tg <;> first
    | exact wpAny_pure hQ
    | (cases u <;> first
        | exact wpAny_pure hQ
        | (refine wpAny_bind (wpAny_load ho ?_)
           rw [hc,hd]
           show wpAny M A (if (["enumerate","zip","dict_itemiterator","dict_reverseitemiterator","odict_iterator","itertools.zip_longest","itertools.pairwise"].contains n && vs[0]? == some (rawInt _))=true then _ else _) Q E s
           rw [if_neg (by intro h;rw [hn,Bool.false_and] at h;cases h)]
           exact wpAny_pure hQ))
def Itl (K:PySem.W.Frag) (a:Addr):It:=
 ⟨fun i H=>∃ xs x,SqL K H a xs/\xs[i]?=some x,fun i H x H'=>H'=H/\∀ xs,SqL K H a xs->xs[i]?=some x,fun i H=>∃ xs,SqL K H a xs/\xs.length<=i⟩
def Itt (K:PySem.W.Frag) (a:Addr):It:=
 ⟨fun i H=>∃ xs x,SqT K H a xs/\xs[i]?=some x,fun i H x H'=>H'=H/\∀ xs,SqT K H a xs->xs[i]?=some x,fun i H=>∃ xs,SqT K H a xs/\xs.length<=i⟩
def Itr (lo:Int) (n:Nat):It:=⟨fun i _=>i < n,fun i H x H'=>H'=H/\x=.int (lo+i),fun i _=>n<=i⟩
theorem turn_list {P:Program} {w:World} {K:PySem.W.Frag} {tg:Expr} (a it:Addr):Turn P w K tg (Itl K a) [it] it (fun i h=>h.IsListIter it a i) where
 mem:=by simp
 obj:=fun i h st b hb=>by
  have e:b=it:=by simpa using hb
  subst e
  obtain ⟨o,e,c,d⟩:=st
  exact ⟨o,e,fun v z=>by rw [d] at z;cases z⟩
 keep:=fun i h h' st k=>st.at fun o e=>k it (by simp) o e
 item:=by
  intro X hP hw hK hc i pins s σ H E I hf st hg
  subst hP hw hK
  obtain ⟨xs,x,hq,hx⟩:=hg
  obtain ⟨its,rv,p,hz⟩:=I.list hq
  obtain ⟨u,hu,ru⟩:=rv.get hx
  obtain ⟨f0,f1,f2,f3,f4,f5⟩:=hf it (by simp)
  refine wpAny_pyNext_list_item st p.isList (x:=u) (by simpa using hu) fun h' st' sb=>?_
  have I1:Inv X pins σ H { s with heap:=h' }:=I.turned (t':=s.toks) (fun b o hb e=>(sb.2 b hb).trans e) f0 f1 f3 f4 f5
  obtain ⟨o,e,c,d⟩:=id st'
  exact ⟨u,rfl,go_of (s:={ s with heap:=h' }) e c d (by decide) ⟨x,H,I1,ru,⟨rfl,fun ys hy=>by rw [I.list_inj hy hq];exact hx⟩,st',fun b hb=>(hf b hb).1⟩⟩
 done:=by
  intro X hP hw hK hc i pins s σ H E I hf st hg
  subst hP hw hK
  obtain ⟨xs,hq,hx⟩:=hg
  obtain ⟨its,rv,p,hz⟩:=I.list hq
  obtain ⟨f0,f1,f2,f3,f4,f5⟩:=hf it (by simp)
  have hl:=rv.length
  exact wpAny_pyNext_list_end (I.ok.hd hc) st p.isList (by simp;omega) fun h' eb=>⟨rfl,I.turned (t':=s.toks) (fun b o hb e=>eb b o hb e) f0 f1 f3 f4 f5⟩
 self:=fun _ _ _ _ _ st h=>wpAny_pyIter_listiter st h
theorem turn_tuple {P:Program} {w:World} {K:PySem.W.Frag} {tg:Expr} (a it:Addr):Turn P w K tg (Itt K a) [it] it (fun i h=>h.IsTupleIter it a i) where
 mem:=by simp
 obj:=fun i h st b hb=>by
  have e:b=it:=by simpa using hb
  subst e
  obtain ⟨o,e,c,d⟩:=st
  exact ⟨o,e,fun v z=>by rw [d] at z;cases z⟩
 keep:=fun i h h' st k=>st.at fun o e=>k it (by simp) o e
 item:=by
  intro X hP hw hK hc i pins s σ H E I hf st hg
  subst hP hw hK
  obtain ⟨xs,x,hq,hx⟩:=hg
  obtain ⟨its,rv,p,hz⟩:=I.tuple hq
  obtain ⟨u,hu,ru⟩:=rv.get hx
  obtain ⟨f0,f1,f2,f3,f4,f5⟩:=hf it (by simp)
  refine wpAny_pyNext_tuple_item st (show s.heap.IsTuple a its.toArray from p) (x:=u) (by simpa using hu) fun h' st' sb=>?_
  have I1:Inv X pins σ H { s with heap:=h' }:=I.turned (t':=s.toks) (fun b o hb e=>(sb.2 b hb).trans e) f0 f1 f3 f4 f5
  obtain ⟨o,e,c,d⟩:=id st'
  exact ⟨u,rfl,go_of (s:={ s with heap:=h' }) e c d (by decide) ⟨x,H,I1,ru,⟨rfl,fun ys hy=>by rw [I.tuple_inj hy hq];exact hx⟩,st',fun b hb=>(hf b hb).1⟩⟩
 done:=by
  intro X hP hw hK hc i pins s σ H E I hf st hg
  subst hP hw hK
  obtain ⟨xs,hq,hx⟩:=hg
  obtain ⟨its,rv,p,hz⟩:=I.tuple hq
  obtain ⟨f0,f1,f2,f3,f4,f5⟩:=hf it (by simp)
  have hl:=rv.length
  exact wpAny_pyNext_tuple_end (I.ok.hd hc) st (show s.heap.IsTuple a its.toArray from p) (by simp;omega) fun h' eb=>⟨rfl,I.turned (t':=s.toks) (fun b o hb e=>eb b o hb e) f0 f1 f3 f4 f5⟩
 self:=fun _ _ _ _ _ st h=>wpAny_pyIter_tupleiter st h
theorem turn_range {P:Program} {w:World} {K:PySem.W.Frag} {tg:Expr} (it:Addr) (lo:Int) (n:Nat):Turn P w K tg (Itr lo n) [it] it (fun i h=>IsRangeIter h it (lo+(i:Nat) * 1) ((n:Int) - (i:Nat)) 1) where
 mem:=by simp
 obj:=fun i h st b hb=>by
  have e:b=it:=by simpa using hb
  subst e
  exact ⟨_,st,fun v z=>by
   have z':Data.fields _=Data.cell v:=z
   cases z'⟩
 keep:=fun i h h' st k=>k it (by simp) _ st
 item:=by
  intro X hP hw hK hc i pins s σ H E I hf st hg
  subst hP hw hK
  obtain ⟨f0,f1,f2,f3,f4,f5⟩:=hf it (by simp)
  have W:=Walks.range (prog:=X.prog) (w:=X.w) (I.ok.hd hc) it lo 1 n
  refine W.item i s _ _ hg st fun v h' tk hv st' kk=>?_
  obtain ⟨t,rfl⟩:=hv
  have I1:Inv X pins σ H { s with heap:=h',toks:=tk }:=I.turned (fun b o hb e=>kk b o (by simpa using hb) e) f0 f1 f3 f4 f5
  refine ⟨_,rfl,go_of (s:={ s with heap:=h',toks:=tk }) (n := "range_iterator") st' rfl rfl (by decide) ⟨.int (lo+i),H,I1,⟨t,?_⟩,⟨rfl,rfl⟩,st',fun b hb=>(hf b hb).1⟩⟩
  rw [Int.mul_one]
 done:=by
  intro X hP hw hK hc i pins s σ H E I hf st hg
  subst hP hw hK
  obtain ⟨f0,f1,f2,f3,f4,f5⟩:=hf it (by simp)
  exact wpAny_pyNext_range_end (I.ok.hd hc) st (by have:n<=i:=hg;omega) fun h' eb=>⟨rfl,I.turned (t':=s.toks) (fun b o hb e=>eb b o hb e) f0 f1 f3 f4 f5⟩
 self:=fun _ _ _ _ _ st h=>wpAny_pyIter_rangeiter st h
end L2
namespace L2
open PySem PySem.Spec PyProof.Rows
section
variable {X:Cx} {tg:Expr}
def iList (K:PySem.W.Frag) (tl:TE):TI:=fun σ H R=>tl σ H fun x H1=>∃ a,x=.ref a/\(∃ xs,SqL K H1 a xs)/\R (Itl K a) H1
def iTup (K:PySem.W.Frag) (tl:TE):TI:=fun σ H R=>tl σ H fun x H1=>∃ a,x=.ref a/\(∃ xs,SqT K H1 a xs)/\R (Itt K a) H1
theorem pi_list {l:Expr} {tl:TE} (hl:PE X l tl):PI X tg l (iList X.K tl):=by
 intro pins s σ H R I h
 refine thn (hl pins s σ H _ I h) fun v s1 ⟨x,H1,I1,r1,q1⟩=>?_
 obtain ⟨a,e,⟨xs,hq⟩,q⟩:=q1
 subst e
 cases r1
 obtain ⟨its,rv,p,hz⟩:=I1.list hq
 refine wpAny_pyIter_list p.isList ?_
 refine ⟨s1.heap.objs.size,[s1.heap.objs.size],_,_,H1,rfl,I1.kept (t':=s1.toks) fun b o e=>Heap.get?_push_of_some _ e,turn_list a _,⟨_,Heap.get?_push_size _ rfl,rfl,rfl⟩,fun b hb=>?_,q⟩
 have e:b=s1.heap.objs.size:=by simpa using hb
 subst e
 exact I1.fpOk (Nat.le_refl _) (I1.hok.fresh (Nat.le_refl _))
theorem pi_tup {l:Expr} {tl:TE} (hl:PE X l tl):PI X tg l (iTup X.K tl):=by
 intro pins s σ H R I h
 refine thn (hl pins s σ H _ I h) fun v s1 ⟨x,H1,I1,r1,q1⟩=>?_
 obtain ⟨a,e,⟨xs,hq⟩,q⟩:=q1
 subst e
 cases r1
 obtain ⟨its,rv,p,hz⟩:=I1.tuple hq
 refine wpAny_pyIter_tuple (show s1.heap.IsTuple a its.toArray from p) ?_
 refine ⟨s1.heap.objs.size,[s1.heap.objs.size],_,_,H1,rfl,I1.kept (t':=s1.toks) fun b o e=>Heap.get?_push_of_some _ e,turn_tuple a _,⟨_,Heap.get?_push_size _ rfl,rfl,rfl⟩,fun b hb=>?_,q⟩
 have e:b=s1.heap.objs.size:=by simpa using hb
 subst e
 exact I1.fpOk (Nat.le_refl _) (I1.hok.fresh (Nat.le_refl _))
theorem range_it {pins:List (Addr × Obj)} {σ:St} {H:Hp} {s:Shared} {R:It->Hp->Prop} {E:Value->Shared->Prop} {lo hi:Int} {t u v:Tok} {tk:Nat} (I:Inv X pins σ H s) (h1:-(2 ^ 62)<=lo) (h2:lo < 2 ^ 62) (h3:-(2 ^ 62)<=hi) (h4:hi < 2 ^ 62)
  (q:R (Itr lo (hi - lo).toNat) H):wpAny (model X.prog X.w) X.A (pyIter (.ref s.heap.objs.size)) (PIE X pins σ tg R) E { s with heap:=s.heap.push { cls:=.type "range",data:=.fields #[.int lo t,.int hi u,.int 1 v] },toks:=tk }:=by
 refine wpAny_pyIter_range (IsRange.new ..) (small_one h1 h2 h3 h4) ?_
 have I1:Inv X pins σ H { s with heap:=s.heap.push { cls:=.type "range",data:=.fields #[.int lo t,.int hi u,.int 1 v] },toks:=tk }:=I.kept fun b o e=>Heap.get?_push_of_some _ e
 refine ⟨(s.heap.push { cls:=.type "range",data:=.fields #[.int lo t,.int hi u,.int 1 v] }).objs.size,[(s.heap.push { cls:=.type "range",data:=.fields #[.int lo t,.int hi u,.int 1 v] }).objs.size],_,_,H,rfl,
  I1.kept (t':=tk) fun b o e=>Heap.get?_push_of_some _ e,turn_range _ lo (hi - lo).toNat,?_,fun b hb=>?_,q⟩
 ·have e1:lo+((0:Nat):Int) * 1=lo:=by simp
  have e2:(((hi - lo).toNat:Nat):Int) - ((0:Nat):Int)=Builtin.Range.rangeSize lo hi 1:=by rw [rangeSize_one];split <;> omega
  show IsRangeIter _ _ (lo+((0:Nat):Int) * 1) ((((hi - lo).toNat:Nat):Int) - ((0:Nat):Int)) 1
  rw [e1,e2]
  exact Heap.get?_push_size _ rfl
 ·have e:b=(s.heap.push { cls:=.type "range",data:=.fields #[.int lo t,.int hi u,.int 1 v] }).objs.size:=by simpa using hb
  subst e
  exact I1.fpOk (Nat.le_refl _) (I1.hok.fresh (Nat.le_refl _))
def iRng1 (ta:TA):TI:=fun σ H R=>ta σ H fun vs H1=>∃ j:Int,vs=[.int j]/\-(2 ^ 62)<=j/\j < 2 ^ 62/\R (Itr 0 j.toNat) H1
def iRng2 (ta:TA):TI:=fun σ H R=>ta σ H fun vs H1=>∃ i j:Int,vs=[.int i,.int j]/\(-(2 ^ 62)<=i/\i < 2 ^ 62/\-(2 ^ 62)<=j/\j < 2 ^ 62)/\R (Itr i (j - i).toNat) H1
theorem pi_range1 {a:Expr} {ta:TA} {p pos:Pos} (hg:Gl X "range") (hm:X.mg "range" = none) (ha:PA X [a] ta) (hs:starEach [a] X.env=[(false,eval a X.env)]:=by rfl):PI X tg (.Call (.Name "range" p) [a] [] pos) (iRng1 ta):=by
 intro pins s σ H R I h
 refine Call_ (ld_blt I hg hm boot_range (PyProof.Rows.callWith_type1 (thn (ha pos pins s σ H _ I h) fun us s1 ⟨vs,H1,I1,r1,q1⟩=>?_) hs rfl))
 obtain ⟨j,e,q1,q2,q⟩:=q1
 subst e
 cases r1 with
 | cons r rr=>
  cases rr
  obtain ⟨t,rfl⟩:=r
  exact call_range_1 (range_it I1 (by omega) (by omega) q1 q2 (by simpa using q))
theorem pi_range2 {a b:Expr} {ta:TA} {p pos:Pos} (hg:Gl X "range") (hm:X.mg "range" = none) (ha:PA X [a,b] ta) (hs:starEach [a,b] X.env=[(false,eval a X.env),(false,eval b X.env)]:=by rfl) (hs2:starEach [b] X.env=[(false,eval b X.env)]:=by rfl) :
  PI X tg (.Call (.Name "range" p) [a,b] [] pos) (iRng2 ta):=by
 intro pins s σ H R I h
 refine Call_ (ld_blt I hg hm boot_range (PyProof.Rows.callWith_type1 (thn (ha pos pins s σ H _ I h) fun us s1 ⟨vs,H1,I1,r1,q1⟩=>?_) (by rw [hs,hs2]) (by rw [hs2];rfl)))
 obtain ⟨i,j,e,⟨q1,q2,q3,q4⟩,q⟩:=q1
 subst e
 cases r1 with
 | cons r rr=>
  cases rr with
  | cons r' rr=>
   cases rr
   obtain ⟨t,rfl⟩:=r
   obtain ⟨t',rfl⟩:=r'
   exact call_range_2 (range_it I1 q1 q2 q3 q4 q)
def tFor (wi:TI) (g:TG) (tb:TS):TS:=fun D σ H=>wi σ H fun J H1=>∃ W:Nat->Nat->St->Hp->Prop,(∃ m,W 0 m σ H1)/\∀ i m σ H,W i m σ H →
 (J.stop i H/\D.nx σ H)\/(J.go i H/\∃ N:St->Hp->Prop,(∀ σ' H',N σ' H'->∃ m',m' < m/\W (i+1) m' σ' H')/\∀ x H',J.yld i H x H'->g x σ H' fun σ2 H2=>tb { D with nx:=N,ct:=N,bk:=D.nx } σ2 H2)
def pinsAt (fp:List Addr) (h:Heap):List (Addr × Obj):=fp.filterMap fun b=>(h.get? b).map fun o=>(b,o)
theorem mem_pinsAt {fp:List Addr} {h:Heap} {b:Addr} {o:Obj} (hb:b ∈ fp) (e:h.get? b=some o):(b,o) ∈ pinsAt fp h:=List.mem_filterMap.mpr ⟨b,hb,by rw [e];rfl⟩
theorem of_pinsAt {fp:List Addr} {h:Heap} {p:Addr × Obj} (hp:p ∈ pinsAt fp h):p.1 ∈ fp/\h.get? p.1=some p.2:=by
 obtain ⟨b,hb,e⟩:=List.mem_filterMap.mp hp
 cases q:h.get? b with
 | none=>rw [q] at e;cases e
 | some o=>
  rw [q] at e
  have e':(b,o)=p:=Option.some.inj e
  subst e'
  exact ⟨hb,q⟩
theorem Inv.pinned {pins:List (Addr × Obj)} {σ:St} {H:Hp} {s:Shared} {fp:List Addr} (I:Inv X pins σ H s) (hf:∀ b ∈ fp,FpOk X pins H b) (ho:∀ b ∈ fp,∃ o,s.heap.get? b=some o/\∀ v,o.data ≠ .cell v):Inv X (pins++pinsAt fp s.heap) σ H s:=
 I.pins_of fun p hp=>(List.mem_append.mp hp).elim (fun z=>I.pin p (List.mem_append_right _ z)) fun z=>by
  obtain ⟨hb,e⟩:=of_pinsAt z
  obtain ⟨f0,f1,f2,_⟩:=hf p.1 hb
  obtain ⟨o,e',d⟩:=ho p.1 hb
  rw [e] at e';cases e'
  exact ⟨e,f0,f1,f2,d⟩
theorem Inv.unpinned {pins pl:List (Addr × Obj)} {σ:St} {H:Hp} {s:Shared} (I:Inv X (pins++pl) σ H s):Inv X pins σ H s:=I.pins_of fun p hp=>I.pin p (List.mem_append_right _ (List.mem_append_left _ hp))
theorem ps_for {iter:Expr} {body:List Stmt} {wi:TI} {g:TG} {tb:TS} {pos:Pos} (hp:PassesOwn (model X.prog X.w) X.A X.env X.xe) (hc:X.calm=true) (hi:PI X tg iter wi) (hg:PG X tg g) (hb:PSs X body tb)
  (hs:∀ x,foldedSetIterable iter X.env x=pure x:=by intro _;rfl):PS X (.For tg iter body [] pos) (tFor wi g tb):=by
 intro pins s σ H D I h
 refine wpAny_For (thn (hi pins s σ H _ I h) fun v s1 h1=>thn h1 fun itv s2 h2=>?_) hs
 obtain ⟨it,fp,tn,J,H2,e,I2,T,st2,f2,W,⟨m0,w0⟩,turn⟩:=h2
 subst e
 -- what stays true of the iterator's objects through the loop
 have stat:∀ {H':Hp},(∀ b ∈ fp,H' b=none)->∀ b ∈ fp,FpOk X pins H' b:=fun hn b hb=>⟨hn b hb,(f2 b hb).2⟩
 refine codeAny_forLoop_any (fun n s'=>∃ i σ' H',Inv X pins σ' H' s'/\tn i s'.heap/\(∀ b ∈ fp,H' b=none)/\W i n σ' H') ?_ m0 ⟨0,σ,H2,I2,st2,fun b hb=>(f2 b hb).1,w0⟩
 rintro n s3 ⟨i,σ3,H3,I3,st3,fr3,w3⟩
 rcases turn i n σ3 H3 w3 with ⟨stop,qn⟩ | ⟨go,N,hN,step⟩
 ·refine wpAny_passesOwn hp (thn (T.done X rfl rfl rfl hc i pins s3 σ3 H3 X.xe I3 (stat fr3) st3 stop) fun r s4 ⟨hr,I4⟩=>?_)
  subst hr
  exact wpAny_execs_nil ⟨σ3,H3,I4,qn⟩
 ·refine wpAny_passesOwn hp (thn (T.item X rfl rfl rfl hc i pins s3 σ3 H3 X.xe I3 (stat fr3) st3 go) fun r s4 ⟨u,hr,h4⟩=>?_)
  subst hr
  refine wpAny_passesOwn hp (thn h4 fun _ s5 ⟨x,H5,I5,r5,y5,st5,fr5⟩=>?_)
  have I5':=I5.pinned (stat fr5) (T.obj _ _ st5)
  refine wpAny_passesOwn hp (thn (hg _ s5 σ3 H5 x u _ I5' r5 (step x H5 y5)) fun _ s6 ⟨σ6,H6,I6,q6⟩=>?_)
  refine wpAny_passesOwn hp (thn (hb _ s6 σ6 H6 _ I6 q6) fun f s7 q7=>?_)
  have again:∀ {σ7:St} {H7:Hp},Inv X (pins++pinsAt fp s5.heap) σ7 H7 s7->N σ7 H7->∃ m,m < n/\∃ i σ' H',Inv X pins σ' H' s7/\tn i s7.heap/\(∀ b ∈ fp,H' b=none)/\W i m σ' H':=fun {σ7 H7} I7 n7=>by
   obtain ⟨m',hm,w7⟩:=hN σ7 H7 n7
   refine ⟨m',hm,i+1,σ7,H7,I7.unpinned,T.keep _ _ _ st5 fun b hb o e=>(I7.pin (b,o) (List.mem_append_right _ (List.mem_append_right _ (mem_pinsAt hb e)))).1,fun b hb=>?_,w7⟩
   obtain ⟨o,e,d⟩:=T.obj _ _ st5 b hb
   exact (I7.pin (b,o) (List.mem_append_right _ (List.mem_append_right _ (mem_pinsAt hb e)))).2.1
  cases f with
  | next=>obtain ⟨σ7,H7,I7,n7⟩:=q7;exact again I7 n7
  | cont=>obtain ⟨σ7,H7,I7,n7⟩:=q7;exact again I7 n7
  | brk=>obtain ⟨σ7,H7,I7,q7⟩:=q7;exact ⟨σ7,H7,I7.unpinned,q7⟩
  | ret v=>obtain ⟨x7,σ7,H7,I7,r7,q7⟩:=q7;exact ⟨x7,σ7,H7,I7.unpinned,r7,q7⟩
end
theorem for_list {K:PySem.W.Frag} {a:Addr} {xs:List V} {g:TG} {tb:TS} {D:Ends} {σ:St} {H:Hp} (Pv:Nat->St->Hp->Prop) (h0:Pv 0 σ H) (hl:∀ i σ H,i<=xs.length->Pv i σ H->SqL K H a xs)
  (hs:∀ i x σ H,xs[i]?=some x->Pv i σ H->g x σ H fun σ2 H2=>tb { D with nx:=Pv (i+1),ct:=Pv (i+1),bk:=D.nx } σ2 H2) (hd:∀ σ H,Pv xs.length σ H->D.nx σ H) :
  ∃ W:Nat->Nat->St->Hp->Prop,(∃ m,W 0 m σ H)/\∀ i m σ H,W i m σ H →
   ((Itl K a).stop i H/\D.nx σ H)\/((Itl K a).go i H/\∃ N:St->Hp->Prop,(∀ σ' H',N σ' H'->∃ m',m' < m/\W (i+1) m' σ' H')/\∀ x H',(Itl K a).yld i H x H'->g x σ H' fun σ2 H2=>tb { D with nx:=N,ct:=N,bk:=D.nx } σ2 H2):=by
 refine ⟨fun i m σ H=>m=xs.length - i/\i<=xs.length/\Pv i σ H,⟨xs.length,by simp,Nat.zero_le _,h0⟩,?_⟩
 rintro i m σ H ⟨rfl,hi,p⟩
 have q:=hl i σ H hi p
 by_cases hlt:i < xs.length
 ·refine .inr ⟨⟨xs,xs[i],q,by simp [hlt]⟩,Pv (i+1),fun σ' H' p'=>⟨xs.length - (i+1),by omega,rfl,hlt,p'⟩,fun x H' y=>?_⟩
  obtain ⟨e,y⟩:=y
  subst e
  exact hs i x σ _ (y xs q) p
 ·have e:i=xs.length:=by omega
  subst e
  exact .inl ⟨⟨xs,q,Nat.le_refl _⟩,hd σ H p⟩
theorem for_tup {K:PySem.W.Frag} {a:Addr} {xs:List V} {g:TG} {tb:TS} {D:Ends} {σ:St} {H:Hp} (Pv:Nat->St->Hp->Prop) (h0:Pv 0 σ H) (hl:∀ i σ H,i<=xs.length->Pv i σ H->SqT K H a xs)
  (hs:∀ i x σ H,xs[i]?=some x->Pv i σ H->g x σ H fun σ2 H2=>tb { D with nx:=Pv (i+1),ct:=Pv (i+1),bk:=D.nx } σ2 H2) (hd:∀ σ H,Pv xs.length σ H->D.nx σ H) :
  ∃ W:Nat->Nat->St->Hp->Prop,(∃ m,W 0 m σ H)/\∀ i m σ H,W i m σ H →
   ((Itt K a).stop i H/\D.nx σ H)\/((Itt K a).go i H/\∃ N:St->Hp->Prop,(∀ σ' H',N σ' H'->∃ m',m' < m/\W (i+1) m' σ' H')/\∀ x H',(Itt K a).yld i H x H'->g x σ H' fun σ2 H2=>tb { D with nx:=N,ct:=N,bk:=D.nx } σ2 H2):=by
 refine ⟨fun i m σ H=>m=xs.length - i/\i<=xs.length/\Pv i σ H,⟨xs.length,by simp,Nat.zero_le _,h0⟩,?_⟩
 rintro i m σ H ⟨rfl,hi,p⟩
 have q:=hl i σ H hi p
 by_cases hlt:i < xs.length
 ·refine .inr ⟨⟨xs,xs[i],q,by simp [hlt]⟩,Pv (i+1),fun σ' H' p'=>⟨xs.length - (i+1),by omega,rfl,hlt,p'⟩,fun x H' y=>?_⟩
  obtain ⟨e,y⟩:=y
  subst e
  exact hs i x σ _ (y xs q) p
 ·have e:i=xs.length:=by omega
  subst e
  exact .inl ⟨⟨xs,q,Nat.le_refl _⟩,hd σ H p⟩
theorem for_range {lo:Int} {n:Nat} {g:TG} {tb:TS} {D:Ends} {σ:St} {H:Hp} (Pv:Nat->St->Hp->Prop) (h0:Pv 0 σ H)
  (hs:∀ i σ H,i < n->Pv i σ H->g (.int (lo+i)) σ H fun σ2 H2=>tb { D with nx:=Pv (i+1),ct:=Pv (i+1),bk:=D.nx } σ2 H2) (hd:∀ σ H,Pv n σ H->D.nx σ H) :
  ∃ W:Nat->Nat->St->Hp->Prop,(∃ m,W 0 m σ H)/\∀ i m σ H,W i m σ H →
   ((Itr lo n).stop i H/\D.nx σ H)\/((Itr lo n).go i H/\∃ N:St->Hp->Prop,(∀ σ' H',N σ' H'->∃ m',m' < m/\W (i+1) m' σ' H')/\∀ x H',(Itr lo n).yld i H x H'->g x σ H' fun σ2 H2=>tb { D with nx:=N,ct:=N,bk:=D.nx } σ2 H2):=by
 refine ⟨fun i m σ H=>m=n - i/\i<=n/\Pv i σ H,⟨n,by simp,Nat.zero_le _,h0⟩,?_⟩
 rintro i m σ H ⟨rfl,hi,p⟩
 by_cases hlt:i < n
 ·refine .inr ⟨hlt,Pv (i+1),fun σ' H' p'=>⟨n - (i+1),by omega,rfl,hlt,p'⟩,fun x H' y=>?_⟩
  obtain ⟨e,y⟩:=y
  subst e y
  exact hs i σ _ hlt p
 ·have e:i=n:=by omega
  subst e
  exact .inl ⟨Nat.le_refl _,hd σ H p⟩
end L2
namespace L2
open PySem PySem.Spec PyProof.Rows
abbrev R2:=V->V->Hp->VK->Prop
def OpR (X:Cx) (f:Value->Value->Sem Value) (r:R2):Prop:=
 ∀ (pins:List (Addr × Obj)) (s:Shared) (σ:St) (H:Hp) (x y:V) (v u:Value) (Q:VK),Inv X pins σ H s->RelV x v->RelV y u->r x y H Q →
  wpAny (model X.prog X.w) X.A (f v u) (EP X pins σ Q) X.xe s
def UnR (X:Cx) (f:Value->Sem Value) (r:V->Hp->VK->Prop):Prop:=
 ∀ (pins:List (Addr × Obj)) (s:Shared) (σ:St) (H:Hp) (x:V) (v:Value) (Q:VK),Inv X pins σ H s->RelV x v->r x H Q →
  wpAny (model X.prog X.w) X.A (f v) (EP X pins σ Q) X.xe s
def CallR (X:Cx) (f:Value) (r:List V->Hp->VK->Prop):Prop:=
 ∀ (pins:List (Addr × Obj)) (s:Shared) (σ:St) (H:Hp) (xs:List V) (us:List Value) (Q:VK),Inv X pins σ H s->Vals xs us->r xs H Q →
  wpAny (model X.prog X.w) X.A (call f us) (EP X pins σ Q) X.xe s
def tOp (r:R2) (ta tb:TE):TE:=fun σ H Q=>ta σ H fun x H1=>tb σ H1 fun y H2=>r x y H2 Q
def tUn (r:V->Hp->VK->Prop) (ta:TE):TE:=fun σ H Q=>ta σ H fun x H1=>r x H1 Q
def rI (C:Int->Int->Prop) (g:Int->Int->V):R2:=fun x y H Q=>∃ i j,x=.int i/\y=.int j/\C i j/\Q (g i j) H
def rI0 (g:Int->Int->V):R2:=fun x y H Q=>∃ i j,x=.int i/\y=.int j/\Q (g i j) H
def rU (g:Int->V):V->Hp->VK->Prop:=fun x H Q=>∃ i,x=.int i/\Q (g i) H
section
variable {X:Cx} {a b c:Expr} {ta tb tc:TE} {pos:Pos}
theorem binT (ha:PE X a ta) (hb:PE X b tb) {pins:List (Addr × Obj)} {s:Shared} {σ:St} {H:Hp} {R:V->V->Hp->Prop} (I:Inv X pins σ H s)
  (h:ta σ H fun x H1=>tb σ H1 fun y H2=>R x y H2) {Q:Value->Shared->Prop} {f:Value->Value->Sem Value}
  (hf:∀ v u s2 x y H2,Inv X pins σ H2 s2->RelV x v->RelV y u->R x y H2->wpAny (model X.prog X.w) X.A (f v u) Q X.xe s2) :
  wpAny (model X.prog X.w) X.A (eval a X.env) (fun v s₁=>wpAny (model X.prog X.w) X.A (eval b X.env) (fun u s₂=>wpAny (model X.prog X.w) X.A (f v u) Q X.xe s₂) X.xe s₁) X.xe s:=by
 refine thn (ha pins s σ H _ I h) fun v s1 ⟨x,H1,I1,r1,q1⟩=>?_
 refine thn (hb pins s1 σ H1 _ I1 q1) fun u s2 ⟨y,H2,I2,r2,q2⟩=>?_
 exact hf v u s2 x y H2 I2 r1 r2 q2
theorem pe_op {op:Operator} {r:R2} (ho:OpR X (binaryOp op) r) (ha:PE X a ta) (hb:PE X b tb):PE X (.BinOp a op b pos) (tOp r ta tb):=by
 intro pins s σ H Q I h
 exact wpAny_BinOp (binT ha hb I h fun v u s2 x y H2 I2 rx ry q=>ho pins s2 σ H2 x y v u Q I2 rx ry q)
theorem pe_un {op:UnaryOp} {r:V->Hp->VK->Prop} (ho:UnR X (unaryOp op) r) (ha:PE X a ta):PE X (.UnaryOp op a pos) (tUn r ta):=by
 intro pins s σ H Q I h
 exact UnaryOp_ (thn (ha pins s σ H _ I h) fun v s1 ⟨x,H1,I1,r1,q1⟩=>ho pins s1 σ H1 x v Q I1 r1 q1)
theorem opI {f:Value->Value->Sem Value} {C:Int->Int->Prop} {g:Int->Int->Int}
  (rule:∀ (i j:Int) (t u:Tok) (s:Shared) (Q:Value->Shared->Prop) (E:Value->Shared->Prop),C i j->Q (.int (g i j) s.toks) { s with toks:=s.toks+1 }->wpAny (model X.prog X.w) X.A (f (.int i t) (.int j u)) Q E s) :
  OpR X f (rI C fun i j=>.int (g i j)):=by
 intro pins s σ H x y v u Q I rx ry h
 obtain ⟨i,j,rfl,rfl,hc,q⟩:=h
 obtain ⟨t,rfl⟩:=rx
 obtain ⟨t',rfl⟩:=ry
 exact rule i j t t' s _ _ hc ⟨.int (g i j),H,I.tok _,⟨_,rfl⟩,q⟩
theorem opI0 {f:Value->Value->Sem Value} {g:Int->Int->Int}
  (rule:∀ (i j:Int) (t u:Tok) (s:Shared) (Q:Value->Shared->Prop) (E:Value->Shared->Prop),Q (.int (g i j) s.toks) { s with toks:=s.toks+1 }->wpAny (model X.prog X.w) X.A (f (.int i t) (.int j u)) Q E s) :
  OpR X f (rI0 fun i j=>.int (g i j)):=by
 intro pins s σ H x y v u Q I rx ry h
 obtain ⟨i,j,rfl,rfl,q⟩:=h
 obtain ⟨t,rfl⟩:=rx
 obtain ⟨t',rfl⟩:=ry
 exact rule i j t t' s _ _ ⟨.int (g i j),H,I.tok _,⟨_,rfl⟩,q⟩
theorem opB0 {f:Value->Value->Sem Value} {g:Int->Int->Bool}
  (rule:∀ (i j:Int) (t u:Tok) (s:Shared) (Q:Value->Shared->Prop) (E:Value->Shared->Prop),Q (.bool (g i j)) s->wpAny (model X.prog X.w) X.A (f (.int i t) (.int j u)) Q E s) :
  OpR X f (rI0 fun i j=>.bl (g i j)):=by
 intro pins s σ H x y v u Q I rx ry h
 obtain ⟨i,j,rfl,rfl,q⟩:=h
 obtain ⟨t,rfl⟩:=rx
 obtain ⟨t',rfl⟩:=ry
 exact rule i j t t' s _ _ ⟨.bl (g i j),H,I,rfl,q⟩
def CDiv (i j:Int):Prop:=0 < j/\j < 1073741824
def CPow (i j:Int):Prop:=0<=j/\j<=1000000/\i.natAbs < 2 ^ 64
def CMul (i j:Int):Prop:=(-(2 ^ 64) < i/\i < 2 ^ 64)\/(-(2 ^ 64) < j/\j < 2 ^ 64)
theorem CMul.ok {i j:Int} (h:CMul i j):IntMulOk i j:=by
 rcases h with ⟨h1,h2⟩ | ⟨h1,h2⟩
 ·exact .of_left (intBits_le_64 h1 h2)
 ·exact .of_right (intBits_le_64 h1 h2)
theorem op_add:OpR X (binaryOp .Add) (rI0 fun i j=>.int (i+j)):=opI0 fun _ _ _ _ _ _ _ q=>add_int q
theorem op_sub:OpR X (binaryOp .Sub) (rI0 fun i j=>.int (i - j)):=opI0 fun _ _ _ _ _ _ _ q=>sub_int q
theorem op_mul:OpR X (binaryOp .Mult) (rI CMul fun i j=>.int (i * j)):=opI fun _ _ _ _ _ _ _ hc q=>mul_int q hc.ok
theorem op_fdiv:OpR X (binaryOp .FloorDiv) (rI CDiv fun i j=>.int (i / j)):=opI fun i j _ _ _ _ _ hc q=>by
 have h1:(0:Int) < j:=hc.1
 have h2:j < 1073741824:=hc.2
 exact floordiv_int (by omega) (by rw [Int.fdiv_eq_ediv_of_nonneg i (by omega)];exact q) (.inl (PyProof.noPylong_small (by omega)))
theorem op_mod:OpR X (binaryOp .Mod) (rI (fun _ j=>0 < j) fun i j=>.int (i % j)):=opI fun i j _ _ _ _ _ hc q=>by
 have h1:(0:Int) < j:=hc
 exact mod_int' (by omega) (by rw [Int.fmod_eq_emod_of_nonneg i (by omega)];exact q)
theorem op_pow:OpR X (binaryOp .Pow) (rI CPow fun i j=>.int (i ^ j.toNat)):=opI fun _ _ _ _ _ _ _ hc q=>pow_int_small hc.1 hc.2.1 hc.2.2 q
theorem unI {f:Value->Sem Value} {g:Int->Int}
  (rule:∀ (i:Int) (t:Tok) (s:Shared) (Q:Value->Shared->Prop) (E:Value->Shared->Prop),Q (.int (g i) s.toks) { s with toks:=s.toks+1 }->wpAny (model X.prog X.w) X.A (f (.int i t)) Q E s) :
  UnR X f (rU fun i=>.int (g i)):=by
 intro pins s σ H x v Q I rx h
 obtain ⟨i,rfl,q⟩:=h
 obtain ⟨t,rfl⟩:=rx
 exact rule i t s _ _ ⟨.int (g i),H,I.tok _,⟨_,rfl⟩,q⟩
theorem un_neg:UnR X (unaryOp .USub) (rU fun i=>.int (-i)):=unI fun _ _ _ _ _ q=>neg_int q
end
def scal:V->V->Bool
 | .non,.non=>true | .non,.int _=>true | .int _,.non=>true | .non,.bl _=>true | .bl _,.non=>true | .non,.str _=>true | .str _,.non=>true
 | .int _,.int _=>true | .bl _,.bl _=>true | .str _,.str _=>true | .byt _,.byt _=>true
 | .int _,.str _=>true | .str _,.int _=>true | .bl _,.str _=>true | .str _,.bl _=>true
 | _,_=>false
def rEq:R2:=fun x y H Q=>scal x y=true/\Q (.bl (decide (x=y))) H
def rNe:R2:=fun x y H Q=>scal x y=true/\Q (.bl (!decide (x=y))) H
theorem dec_int {i j:Int}:decide (V.int i=V.int j)=(i == j):=by
 rw [Bool.eq_iff_iff]
 simp
theorem dec_bl {i j:Bool}:decide (V.bl i=V.bl j)=(i == j):=by
 rw [Bool.eq_iff_iff]
 simp
theorem dec_str {i j:Str}:decide (V.str i=V.str j)=(i == j):=by
 rw [Bool.eq_iff_iff]
 simp
theorem dec_byt {i j:Array UInt8}:decide (V.byt i=V.byt j)=(i.toList == j.toList):=by
 rw [Bool.eq_iff_iff]
 cases i
 cases j
 simp
section
variable {X:Cx} {a b c:Expr} {ta tb tc:TE} {pos:Pos}
theorem fin_bl {pins:List (Addr × Obj)} {σ:St} {H:Hp} {s:Shared} {Q:VK} {k k':Bool} (I:Inv X pins σ H s) (q:Q (.bl k) H) (e:k=k'):EP X pins σ Q (.bool k') s:=by
 subst e
 exact ⟨.bl k,H,I,rfl,q⟩
theorem op_eq:OpR X (compareOp .Eq) rEq:=by
 intro pins s σ H x y v u Q I rx ry h
 obtain ⟨hs,q⟩:=h
 cases x with
 | non=>
  cases rx
  cases y with
  | non=>cases ry;exact PySem.EqNone.eq_none_none (fin_bl I q (by simp))
  | bl j=>cases ry;exact PySem.EqNone.eq_none_bool (fin_bl I q (by simp))
  | int j=>obtain ⟨t',rfl⟩:=ry;exact PySem.EqNone.eq_none_int (fin_bl I q (by simp))
  | str j=>obtain ⟨t',rfl⟩:=ry;exact PySem.EqNone.eq_none_str (fin_bl I q (by simp))
  | _=>exact absurd (show false=true from hs) Bool.false_ne_true
 | bl i=>
  cases rx
  cases y with
  | non=>cases ry;exact PySem.EqNone.eq_bool_none (fin_bl I q (by simp))
  | bl j=>cases ry;exact eq_bool (fin_bl I q dec_bl)
  | str j=>obtain ⟨t',rfl⟩:=ry;exact PySem.EqMixed.eq_bool_str (fin_bl I q (by simp))
  | _=>exact absurd (show false=true from hs) Bool.false_ne_true
 | int i=>
  obtain ⟨t,rfl⟩:=rx
  cases y with
  | non=>cases ry;exact PySem.EqNone.eq_int_none (fin_bl I q (by simp))
  | int j=>obtain ⟨t',rfl⟩:=ry;exact eq_int (fin_bl I q dec_int)
  | str j=>obtain ⟨t',rfl⟩:=ry;exact PySem.EqMixed.eq_int_str (fin_bl I q (by simp))
  | _=>exact absurd (show false=true from hs) Bool.false_ne_true
 | str i=>
  obtain ⟨t,rfl⟩:=rx
  cases y with
  | non=>cases ry;exact PySem.EqNone.eq_str_none (fin_bl I q (by simp))
  | bl j=>cases ry;exact PySem.EqMixed.eq_str_bool (fin_bl I q (by simp))
  | int j=>obtain ⟨t',rfl⟩:=ry;exact PySem.EqMixed.eq_str_int (fin_bl I q (by simp))
  | str j=>obtain ⟨t',rfl⟩:=ry;exact eq_str (fin_bl I q dec_str)
  | _=>exact absurd (show false=true from hs) Bool.false_ne_true
 | byt i=>
  obtain ⟨t,rfl⟩:=rx
  cases y with
  | byt j=>obtain ⟨t',rfl⟩:=ry;exact PySem.W.eq_bytes (fin_bl I q dec_byt)
  | _=>exact absurd (show false=true from hs) Bool.false_ne_true
 | _=>cases y <;> exact absurd (show false=true from hs) Bool.false_ne_true
theorem op_ne:OpR X (compareOp .NotEq) rNe:=by
 intro pins s σ H x y v u Q I rx ry h
 obtain ⟨hs,q⟩:=h
 cases x with
 | non=>
  cases rx
  cases y with
  | non=>cases ry;exact PySem.EqNone.ne_none_none (fin_bl I q (by simp))
  | bl j=>cases ry;exact PySem.EqNone.ne_none_bool (fin_bl I q (by simp))
  | int j=>obtain ⟨t',rfl⟩:=ry;exact PySem.EqNone.ne_none_int (fin_bl I q (by simp))
  | str j=>obtain ⟨t',rfl⟩:=ry;exact PySem.EqNone.ne_none_str (fin_bl I q (by simp))
  | _=>exact absurd (show false=true from hs) Bool.false_ne_true
 | bl i=>
  cases rx
  cases y with
  | non=>cases ry;exact PySem.EqNone.ne_bool_none (fin_bl I q (by simp))
  | bl j=>cases ry;exact ne_bool (fin_bl I q (congrArg not dec_bl))
  | str j=>obtain ⟨t',rfl⟩:=ry;exact PySem.EqMixed.ne_bool_str (fin_bl I q (by simp))
  | _=>exact absurd (show false=true from hs) Bool.false_ne_true
 | int i=>
  obtain ⟨t,rfl⟩:=rx
  cases y with
  | non=>cases ry;exact PySem.EqNone.ne_int_none (fin_bl I q (by simp))
  | int j=>obtain ⟨t',rfl⟩:=ry;exact ne_int (fin_bl I q (congrArg not dec_int))
  | str j=>obtain ⟨t',rfl⟩:=ry;exact PySem.EqMixed.ne_int_str (fin_bl I q (by simp))
  | _=>exact absurd (show false=true from hs) Bool.false_ne_true
 | str i=>
  obtain ⟨t,rfl⟩:=rx
  cases y with
  | non=>cases ry;exact PySem.EqNone.ne_str_none (fin_bl I q (by simp))
  | bl j=>cases ry;exact PySem.EqMixed.ne_str_bool (fin_bl I q (by simp))
  | int j=>obtain ⟨t',rfl⟩:=ry;exact PySem.EqMixed.ne_str_int (fin_bl I q (by simp))
  | str j=>obtain ⟨t',rfl⟩:=ry;exact ne_str (fin_bl I q (congrArg not dec_str))
  | _=>exact absurd (show false=true from hs) Bool.false_ne_true
 | byt i=>
  obtain ⟨t,rfl⟩:=rx
  cases y with
  | byt j=>obtain ⟨t',rfl⟩:=ry;exact PySem.W.ne_bytes (fin_bl I q (congrArg not dec_byt))
  | _=>exact absurd (show false=true from hs) Bool.false_ne_true
 | _=>cases y <;> exact absurd (show false=true from hs) Bool.false_ne_true
theorem op_lt:OpR X (compareOp .Lt) (rI0 fun i j=>.bl (decide (i < j))):=opB0 fun _ _ _ _ _ _ _ q=>lt_int q
theorem op_le:OpR X (compareOp .LtE) (rI0 fun i j=>.bl (decide (i<=j))):=opB0 fun _ _ _ _ _ _ _ q=>le_int q
theorem op_gt:OpR X (compareOp .Gt) (rI0 fun i j=>.bl (decide (j < i))):=opB0 fun _ _ _ _ _ _ _ q=>gt_int q
theorem op_ge:OpR X (compareOp .GtE) (rI0 fun i j=>.bl (decide (j<=i))):=opB0 fun _ _ _ _ _ _ _ q=>ge_int q
theorem op_isN:OpR X (compareOp .Is) (fun x y H Q=>y=.non/\Q (.bl (decide (x=.non))) H):=by
 intro pins s σ H x y v u Q I rx ry h
 obtain ⟨rfl,q⟩:=h
 cases ry
 refine is_none_gen (fin_bl I q ?_)
 cases x <;> first
  | (cases rx;rfl)
  | (obtain ⟨t,rfl⟩:=rx;rfl)
theorem op_notN:OpR X (compareOp .IsNot) (fun x y H Q=>y=.non/\Q (.bl (!decide (x=.non))) H):=by
 intro pins s σ H x y v u Q I rx ry h
 obtain ⟨rfl,q⟩:=h
 cases ry
 refine isnot_none_gen (fin_bl I q ?_)
 cases x <;> first
  | (cases rx;rfl)
  | (obtain ⟨t,rfl⟩:=rx;rfl)
theorem nomark (b:Expr) {op:CmpOp} (h:op ≠ .In:=by decide) (h2:op ≠ .NotIn:=by decide):behindInMarks op b=false:=by
 have e1:(op == CmpOp.In)=false:=by cases op <;> first | rfl | exact absurd rfl h
 have e2:(op == CmpOp.NotIn)=false:=by cases op <;> first | rfl | exact absurd rfl h2
 cases b <;> simp [behindInMarks,e1,e2]
theorem pe_cmpR {op:CmpOp} {r:R2} (ho:OpR X (compareOp op) r) (ha:PE X a ta) (hb:PE X b tb) (hm:behindInMarks op b=false):PE X (.Compare a [op] [b] pos) (tOp r ta tb):=by
 intro pins s σ H Q I h
 exact wpAny_Compare1 (binT ha hb I h fun v u s2 x y H2 I2 rx ry q=>ho pins s2 σ H2 x y v u Q I2 rx ry q) hm
def tTest (t:TE):TT:=fun σ H Q=>t σ H fun x H'=>∃ k,x=.bl k/\Q k H'
theorem pt_cmpR {op:CmpOp} {r:R2} (ho:OpR X (compareOp op) r) (ha:PE X a ta) (hb:PE X b tb) (hm:behindInMarks op b=false):PT X (.Compare a [op] [b] pos) (tTest (tOp r ta tb)):=by
 intro pins s σ H Q I h
 refine wpAny_isTrue_Compare1 (thn (ha pins s σ H _ I h) fun v s1 ⟨x,H1,I1,r1,q1⟩=>thn (hb pins s1 σ H1 _ I1 q1) fun u s2 ⟨y,H2,I2,r2,q2⟩=>
  thn (ho pins s2 σ H2 x y v u _ I2 r1 r2 q2) fun c s3 ⟨z,H3,I3,r3,k,e,q3⟩=>?_) hm
 subst e
 cases r3
 exact wpAny_truthy_bool ⟨H3,I3,q3⟩
def tChain (r r':R2) (ta tb tc:TE):TE:=fun σ H Q=>ta σ H fun x H1=>tb σ H1 fun y H2=>r x y H2 fun z H3=>∃ k,z=.bl k ∧
 (if k=true then tc σ H3 fun w' H4=>r' y w' H4 Q else Q (.bl false) H3)
theorem pt_chain {op op':CmpOp} {r r':R2} (ho:OpR X (compareOp op) r) (ho':OpR X (compareOp op') r') (ha:PE X a ta) (hb:PE X b tb) (hc:PE X c tc)
  (hm:lastMarks [op,op'] [b,c]=false:=by with_unfolding_all rfl):PT X (.Compare a [op,op'] [b,c] pos) (tTest (tChain r r' ta tb tc)):=by
 intro pins s σ H Q I h
 refine isTrue_chain (thn (ha pins s σ H _ I h) fun v s1 ⟨x,H1,I1,r1,q1⟩=>test_link (thn (hb pins s1 σ H1 _ I1 q1) fun u s2 ⟨y,H2,I2,r2,q2⟩=>
  thn (ho pins s2 σ H2 x y v u _ I2 r1 r2 q2) fun d s3 ⟨z,H3,I3,r3,k,e,q3⟩=>?_)) hm
 subst e
 cases r3
 refine wpAny_truthy_bool ?_
 cases k with
 | false=>
  obtain ⟨k',e',q'⟩:=q3
  cases e'
  exact ite_ff ⟨H3,I3,q'⟩
 | true=>
  refine ite_tt (test_last (thn (hc pins s3 σ H3 _ I3 q3) fun w' s4 ⟨z',H4,I4,r4,q4⟩=>thn (ho' pins s4 σ H4 y z' u w' _ I4 r2 r4 q4) fun d' s5 ⟨z2,H5,I5,r5,k2,e2,q5⟩=>?_))
  subst e2
  cases r5
  exact wpAny_truthy_bool ⟨H5,I5,q5⟩
theorem line63:(sizeLine:Nat) < 2 ^ 63:=by rw [sizeLine_eq];decide
theorem op_add_str:OpR X (binaryOp .Add) (fun x y H Q=>∃ i j,x=.str i/\y=.str j/\i.length+j.length<=sizeLine/\Q (.str (i++j)) H):=by
 intro pins s σ H x y v u Q I rx ry h
 obtain ⟨i,j,rfl,rfl,hz,q⟩:=h
 obtain ⟨t,rfl⟩:=rx
 obtain ⟨t',rfl⟩:=ry
 exact add_str (fun t' tk=>⟨.str (i++j),H,I.tok _,⟨_,rfl⟩,q⟩) hz
theorem vals1 {x:V} {us:List Value} (r:Vals [x] us):∃ u,us=[u]/\RelV x u:=by
 cases r with
 | cons r1 r2=>cases r2;exact ⟨_,rfl,r1⟩
theorem vals2 {x y:V} {us:List Value} (r:Vals [x,y] us):∃ u w',us=[u,w']/\RelV x u/\RelV y w':=by
 cases r with
 | cons r1 r2=>
  cases r2 with
  | cons r3 r4=>cases r4;exact ⟨_,_,rfl,r1,r3⟩
theorem call_max2 (hc:X.calm=true):CallR X (.builtin "max") (fun xs H Q=>∃ i j,xs=[.int i,.int j]/\Q (.int (if j > i then j else i)) H):=by
 intro pins s σ H xs us Q I r h
 obtain ⟨i,j,rfl,q⟩:=h
 obtain ⟨u,w',rfl,⟨t,rfl⟩,⟨t',rfl⟩⟩:=vals2 r
 refine max_two_ints (I.ok.hd hc) fun h' tk k=>⟨_,H,I.kept k,?_,q⟩
 by_cases hj:j > i
 ·rw [if_pos hj,if_pos hj];exact ⟨_,rfl⟩
 ·rw [if_neg hj,if_neg hj];exact ⟨_,rfl⟩
theorem call_min2 (hc:X.calm=true):CallR X (.builtin "min") (fun xs H Q=>∃ i j,xs=[.int i,.int j]/\Q (.int (if j < i then j else i)) H):=by
 intro pins s σ H xs us Q I r h
 obtain ⟨i,j,rfl,q⟩:=h
 obtain ⟨u,w',rfl,⟨t,rfl⟩,⟨t',rfl⟩⟩:=vals2 r
 refine min_two_ints (I.ok.hd hc) fun h' tk k=>⟨_,H,I.kept k,?_,q⟩
 by_cases hj:j < i
 ·rw [if_pos hj,if_pos hj];exact ⟨_,rfl⟩
 ·rw [if_neg hj,if_neg hj];exact ⟨_,rfl⟩
theorem call_int1:CallR X (.type "int") (fun xs H Q=>(∃ i,xs=[.int i]/\Q (.int i) H)\/∃ k,xs=[.bl k]/\Q (.int (if k then 1 else 0)) H):=by
 intro pins s σ H xs us Q I r h
 rcases h with ⟨i,rfl,q⟩ | ⟨k,rfl,q⟩
 ·obtain ⟨u,rfl,t,rfl⟩:=vals1 r
  exact call_int_int ⟨.int i,H,I,⟨_,rfl⟩,q⟩
 ·obtain ⟨u,rfl,r1⟩:=vals1 r
  cases r1
  exact call_int_bool ⟨.int (if k then 1 else 0),H,I.tok _,⟨_,rfl⟩,q⟩
end
end L2
namespace L2
open PySem PySem.Spec PyProof.Rows
structure ObjM (h:Heap) (x dx C:Addr) (mA:Str->Option Value):Prop where
 obj:h.get? x=some (PySem.W.instObj C dx)
 ns:h.Ns1 dx mA
 ne:dx ≠ x
theorem lookIn_ns {h:Heap} {dx:Addr} {mA:Str->Option Value} (n:h.Ns1 dx mA):∃ od,h.get? dx=some od/\∀ name,PySem.W.lookIn name od=some (mA name):=by
 obtain ⟨o,es,ep,ho,hd,hk,_,hm⟩:=n
 refine ⟨o,ho,fun name=>?_⟩
 have e:=hm name
 unfold nsFind findBy at e
 rw [<-Array.find?_toList] at e
 unfold PySem.W.lookIn
 rw [hd]
 dsimp only
 split
 ·rename_i y q
  rw [q] at e
  exact congrArg some e
 ·rename_i q
  rw [q] at e
  have a:es.toList.any (·.refKey)=false:=by
   rw [List.any_eq_false]
   intro y hy
   obtain ⟨z,t,hkey⟩:=hk y (Array.mem_toList_iff.mp hy)
   simp [DictEntry.refKey,hkey]
  have a':¬ es.toList.any (·.refKey)=true:=by rw [a];exact Bool.false_ne_true
  rw [if_neg a']
  exact congrArg some e
theorem ObjM.look {h:Heap} {x dx C:Addr} {mA:Str->Option Value} (I:ObjM h x dx C mA):∃ od,PySem.W.InstAt h x (PySem.W.instObj C dx) C (some od)/\∀ name,PySem.W.lookIn name od=some (mA name):=
 let ⟨od,ho,hl⟩:=lookIn_ns I.ns
 ⟨od,⟨I.obj,rfl,rfl,ho⟩,hl⟩
section
variable {prog:Program} {w:World} {A:Around} {E:Value->Shared->Prop} {s:Shared} {K:PySem.W.Frag} {x dx C f:Addr} {mA:Str->Option Value} {name:Str} {v:Value}
end
theorem RelO.some_of {v:V} {o:Option Value} (r:RelO (some v) o):∃ u,o=some u/\RelV v u:=by
 cases o with
 | none=>exact (show False from r).elim
 | some u=>exact ⟨u,rfl,r⟩
section
variable {P:Program} {w:World} {H H':Hp} {h h':Heap} {a C dx:Addr} {fs fs':List (Str × V)}
theorem ins_get (hok:HOk P w H h) (e:H a=some (.ins C dx fs)):∃ mA,ObjM h a dx C mA/\(∀ f,RelO (fs.lookup f) (mA f))/\PySem.Within mA (fs.map (·.1))/\fs.length<=1000/\H dx=some (.own a):=by
 obtain ⟨d,z,ne,ob,mA,n,r,q⟩:=(show ObjOk P w H h a (.ins C dx fs) from hok a _ e)
 exact ⟨mA,⟨ob,n,ne⟩,r,q,z,d⟩
end
structure Cls (K:PySem.W.Frag) (C:Addr):Prop where
 pg:PySem.W.plainGet K C Str.empty=true
 hd:PySem.W.hasDictIn K C=true
 po:PySem.W.plainOver K C=true
 sa:PySem.W.findIn K (.ref C) "__setattr__" = some (some (.builtin "object.__setattr__"))
theorem Cls.get {K:PySem.W.Frag} {C:Addr} (c:Cls K C) (f:Str):PySem.W.plainGet K C f=true:=c.pg
section
variable {X:Cx} {pins:List (Addr × Obj)} {σ:St} {H:Hp} {s:Shared} {a C dx:Addr} {fs:List (Str × V)} {f:Str} {v:V} {A:Around} {E:Value->Shared->Prop}
end
section
variable {X:Cx} {o e value:Expr} {f:Str} {pos pos' tpos:Pos} {ta tv:TE}
end
section
variable {X:Cx} {pins:List (Addr × Obj)} {σ:St} {H:Hp} {s:Shared} {A:Around} {E:Value->Shared->Prop} {Q:Value->Shared->Prop} {c:Value} {b:Bool}
inductive TyOf (K:PySem.W.Frag) (H:Hp):V->Value->Prop where
 | non:TyOf K H .non (.type "NoneType")
 | bl (x:Bool):TyOf K H (.bl x) (.type "bool")
 | int (i:Int):TyOf K H (.int i) (.type "int")
 | str (x:Str):TyOf K H (.str x) (.type "str")
 | flt (x:UInt64):TyOf K H (.flt x) (.type "float")
 | lst {a:Addr} {xs:List V} (e:H a=some (.lst xs)):TyOf K H (.ref a) (.type "list")
 | frz {a:Addr} {o:Obj} {xs:List V} (e:H a=some (.frz o (.lst xs))):TyOf K H (.ref a) (.type "list")
 | tup {a:Addr} {xs:List V} (e:H a=some (.tup xs)):TyOf K H (.ref a) (.type "tuple")
 | dK {a:Addr} {kvs:List (Key × V)} (e:H a=some (.dK kvs)):TyOf K H (.ref a) (.type "dict")
 | dT {a:Addr} {kvs:List (List Key × V)} (e:H a=some (.dT kvs)):TyOf K H (.ref a) (.type "dict")
 | ins {a C dx:Addr} {fs:List (Str × V)} (e:H a=some (.ins C dx fs)) (cl:Cls K C) (ha:PySem.W.findIn K (.ref C) "__class__" = some (some (.builtin "object.__class__")))
   (hn:PySem.W.specialIn K (.builtin "object.__class__") "__get__" = some (some (.builtin "getset_descriptor.__get__"))) (htk:PySem.W.takesIn K (.builtin "object.__class__")=some true)
   (hm:PySem.W.mroIn K C (.type "object")=some true):TyOf K H (.ref a) (.ref C)
theorem isinst_ok {x:V} {u t:Value} (I:Inv X pins σ H s) (rx:RelV x u) (ty:TyOf X.K H x t) (e:PySem.W.kitOne X.K t c=some b) (h:∀ tk,Q (.bool b) { s with toks:=tk }) :
  wpAny (model X.prog X.w) A (call (.builtin "isinstance") [u,c]) Q E s:=by
 cases ty with
 | non=>cases (show u=Value.none from rx);exact PySem.W.kia_one PySem.W.kitx_none I.kIn True.intro e (fun z=>nomatch z) h
 | bl y=>cases (show u=Value.bool y from rx);exact PySem.W.kia_one PySem.W.kitx_bool I.kIn True.intro e (fun z=>nomatch z) h
 | int i=>obtain ⟨t,q⟩:=(show ∃ t,u=Value.int i t from rx);cases q;exact PySem.W.kia_one PySem.W.kitx_int I.kIn True.intro e (fun z=>nomatch z) h
 | str y=>obtain ⟨t,q⟩:=(show ∃ t,u=Value.str y t from rx);cases q;exact PySem.W.kia_one PySem.W.kitx_str I.kIn True.intro e (fun z=>nomatch z) h
 | flt y=>obtain ⟨t,q⟩:=(show ∃ t,u=Value.float y t from rx);cases q;exact PySem.W.kia_one PySem.W.kitx_float I.kIn True.intro e (fun z=>nomatch z) h
 | @lst a xs ea=>
  cases (show u=Value.ref a from rx)
  obtain ⟨_,_,n,_,h1⟩:=(show ObjOk X.prog X.w H s.heap a (.lst xs) from I.hok a _ ea)
  exact PySem.W.kia_one PySem.W.kitx_list I.kIn ⟨_,h1,rfl⟩ e (fun z=>nomatch z) h
 | @frz a ob xs ea=>
  cases (show u=Value.ref a from rx)
  obtain ⟨_,_,_,n,_,h1⟩:=(show ObjOk X.prog X.w H s.heap a (.frz ob (.lst xs)) from I.hok a _ ea)
  exact PySem.W.kia_one PySem.W.kitx_list I.kIn ⟨_,h1,rfl⟩ e (fun z=>nomatch z) h
 | @tup a xs ea=>
  cases (show u=Value.ref a from rx)
  obtain ⟨_,_,_,p⟩:=(show ObjOk X.prog X.w H s.heap a (.tup xs) from I.hok a _ ea)
  obtain ⟨o,h1,h2,_⟩:=p
  exact PySem.W.kia_one PySem.W.kitx_tuple I.kIn ⟨o,h1,h2⟩ e (fun z=>nomatch z) h
 | @dK a kvs ea=>
  cases (show u=Value.ref a from rx)
  obtain ⟨_,_,vs,_,p⟩:=(show ObjOk X.prog X.w H s.heap a (.dK kvs) from I.hok a _ ea)
  obtain ⟨o,es,ep,h1,h2,_⟩:=p
  exact PySem.W.kia_one PySem.W.kitx_dict I.kIn ⟨o,h1,h2.1⟩ e (fun z=>nomatch z) h
 | @dT a kvs ea=>exact False.elim (show ObjOk X.prog X.w H s.heap a (.dT kvs) from I.hok a _ ea)
 | @ins a C dx fs ea cl ha hn htk hm=>
  cases (show u=Value.ref a from rx)
  obtain ⟨mA,O,_⟩:=ins_get I.hok ea
  obtain ⟨od,J,_⟩:=O.look
  exact PySem.W.kia_one (PySem.W.kitx_own (cl.get _) cl.hd ha hn htk hm) I.kIn J e (fun z=>nomatch z) h
end
end L2
namespace L2
open PySem PySem.Spec PyProof.Rows
structure Room (k:Nat) (A:Around):Prop where
 hd:A.handled=none
 dp:A.depth+3 * k+5 < recursionLimit
 un:A.units+16 * k+200 < cLine
theorem Room.mono {j k:Nat} {A:Around} (r:Room k A) (h:j<=k):Room j A:=⟨r.hd,by have:=r.dp;omega,by have:=r.un;omega⟩
theorem Room.deeper {k:Nat} {A:Around} (r:Room (k+1) A) (env:Env):Room k (A.deeper env):=
 ⟨r.hd,by have:=r.dp;show A.depth+1+3 * k+5 < _;omega,by have:=r.un;show A.units+3+16 * k+200 < _;omega⟩
theorem Room.depth {k:Nat} {A:Around} (r:Room k A):A.depth < recursionLimit:=by have:=r.dp;omega
theorem Room.units {k:Nat} {A:Around} (r:Room k A):A.units+64 < cLine:=by have:=r.un;omega
def tNil:TA:=fun _ H Q=>Q [] H
def tCons (ta:TE) (tr:TA):TA:=fun σ H Q=>ta σ H fun x H1=>tr σ H1 fun xs H2=>Q (x :: xs) H2
section
variable {X:Cx} {e:Expr} {es:List Expr} {te:TE} {t:TA} {pos:Pos}
theorem pa_nil:PA X [] tNil:=fun _ _ _ _ H Q I h=>Calls.spliced_nil ⟨[],H,I,.nil,h⟩
theorem pa_cons (ha:PE X e te) (hr:PA X es t) (hs:starEach (e :: es) X.env=(false,eval e X.env) :: starEach es X.env:=by rfl):PA X (e :: es) (tCons te t):=by
 intro pos pins s σ H Q I h
 rw [hs]
 show wpAny _ _ (spliced ((false,eval e X.env) :: backTo pos (starEach es X.env))) _ _ s
 refine Calls.spliced_cons (thn (ha pins s σ H _ I h) fun u s1 ⟨x,H1,I1,r1,q1⟩=>?_)
 exact thn (hr pos pins s1 σ H1 _ I1 q1) fun us s2 ⟨xs,H2,I2,r2,q2⟩=>⟨x :: xs,H2,I2,.cons r1 r2,q2⟩
def tTup (t:TA):TE:=fun σ H Q=>t σ H fun xs H1=>xs.length<=sizeLine/\∀ p,H1 p=none->Q (.ref p) (upd H1 p (.tup xs))
def tLst (t:TA):TE:=fun σ H Q=>t σ H fun xs H1=>xs.length<=sizeLine/\∀ p,H1 p=none->Q (.ref p) (upd H1 p (.lst xs))
theorem pe_tup {x1} (h:PA X es t):PE X (.Tuple es x1 pos) (tTup t):=by
 intro pins s σ H Q I hq
 refine wpAny_Tuple_spliced (thn (h pos pins s σ H _ I hq) fun us s1 ⟨xs,H1,I1,r,z,q⟩=>⟨by rw [<-r.length];exact z,?_⟩)
 have hf:H1 s1.heap.objs.size=none:=I1.hok.fresh (Nat.le_refl _)
 refine ⟨.ref s1.heap.objs.size,upd H1 s1.heap.objs.size (.tup xs),I1.laid (t':=s1.toks) (fun b u e=>Heap.get?_push_of_some _ e) (Nat.le_refl _) ?_,rfl,q _ hf⟩
 exact ⟨z,us,r,⟨_,Heap.get?_push_size _ rfl,rfl,_,rfl⟩⟩
theorem pe_lst (h:PA X es t):PE X (.List es pos) (tLst t):=by
 intro pins s σ H Q I hq
 refine wpAny_List_spliced (thn (h pos pins s σ H _ I hq) fun us s1 ⟨xs,H1,I1,r,z,q⟩=>⟨by rw [<-r.length];exact z,?_⟩)
 have hf:H1 s1.heap.objs.size=none:=I1.hok.fresh (Nat.le_refl _)
 refine ⟨.ref s1.heap.objs.size,upd H1 s1.heap.objs.size (.lst xs),I1.laid (t':=s1.toks) (fun b u e=>Heap.get?_push_of_some _ e) (Nat.le_refl _) ?_,rfl,q _ hf⟩
 exact ⟨z,us,0,r,Heap.get?_push_size _ rfl⟩
end
abbrev Sp:=List V->Hp->VK->XK->Prop
abbrev CXT:=List Env->Hp->Shared->XK->Value->Shared->Prop
structure Env0 (P:Program) (w:World) (K:PySem.W.Frag) (mg:Str->Option Value) (base:Heap) (A:Around) (outer:List Env) (s:Shared) (H:Hp):Prop where
 frames:A.frames=some outer
 mod:Mod K mg base
 bs:∀ b o,base.get? b=some o->s.heap.get? b=some o/\H b=none
 bsz:base.objs.size<=s.heap.objs.size
 funs:s.heap.FunFrames base outer
 frf:∀ b ∈ frs outer,H b=none
 hok:HOk P w H s.heap
 bare:AllBare s.gens
def CE (outer:List Env) (P:Program) (w:World) (H:Hp) (s:Shared) (Q:VK) (u:Value) (s':Shared):Prop:=
 ∃ v H',s'.os=s.os/\AllBare s'.gens/\Un (frs outer) [] H H' s.heap s'.heap/\HOk P w H' s'.heap/\RelV v u/\Q v H'
def CR (CX:CXT) (outer:List Env) (P:Program) (w:World) (H:Hp) (s:Shared) (Q:VK) (E:XK) (r:Result) (s':Shared):Prop:=
 match r with
 | .ok (.ret u)=>CE outer P w H s Q u s'
 | .ok _=>False
 | .error e=>CX outer H s E e s'
structure FnOk (P:Program) (w:World) (K:PySem.W.Frag) (mg:Str->Option Value) (base:Heap) (CX:CXT) (k:Nat) (f:Addr) (fd:FuncData) (ps:List Str) (sp:Sp):Prop where
 len:∀ vs H Q E,sp vs H Q E->vs.length=ps.length
 run:∀ (A:Around) (outer:List Env) (s:Shared) (H:Hp) (args:Args) (us:List Value) (vs:List V) (Q:VK) (E:XK),Room k A->Env0 P w K mg base A outer s H->BindsTo s fd args (ps.zip us)->Vals vs us->sp vs H Q E →
  codeAny (model P w) A (.call (.ref f) args) (CR CX outer P w H s Q E) s
theorem FnOk.mono {P:Program} {w:World} {K:PySem.W.Frag} {mg:Str->Option Value} {base:Heap} {CX:CXT} {j k:Nat} {f:Addr} {fd:FuncData} {ps:List Str} {sp:Sp} (F:FnOk P w K mg base CX j f fd ps sp) (h:j<=k) :
  FnOk P w K mg base CX k f fd ps sp:=⟨F.len,fun A outer s H args us vs Q E hr=>F.run A outer s H args us vs Q E (hr.mono h)⟩
section
variable {X:Cx} {pins:List (Addr × Obj)} {σ:St} {H:Hp} {s s':Shared}
theorem Inv.env0 (I:Inv X pins σ H s):Env0 X.prog X.w X.K X.mg X.base X.A X.stack s H:=
 ⟨I.ok.frames,I.ok.mod,I.bs,Nat.le_trans I.ok.bsz I.sz,I.stack,I.stkFree,I.hok,I.bare⟩
theorem Inv.after {Q:VK} {u:Value} (I:Inv X pins σ H s) (h:CE X.stack X.prog X.w H s Q u s'):EP X pins σ Q u s':=by
 obtain ⟨v,H',os,bare,un,hok,r,q⟩:=h
 obtain ⟨hh,g,d,t,os'⟩:=s'
 obtain rfl:os'=s.os:=os
 exact ⟨v,H',I.call (h':=hh) (g':=g) (d':=d) (t':=t) (ch:=[]) un hok bare (fun b z=>absurd z (by simp)),r,q⟩
end
def tCall (sp:Sp) (dvs:List V) (E:XK) (t:TA):TE:=fun σ H Q=>t σ H fun vs H1=>sp (vs++dvs) H1 Q E
def Binds (K:PySem.W.Frag) (fd:FuncData) (ps:List Str) (ds:List Value):Prop:=
 ∀ (s:Shared) (us:List Value),K.In s.heap->(us++ds).length=ps.length->BindsTo s fd ⟨us,[]⟩ (ps.zip (us++ds))
theorem Binds.all {K:PySem.W.Frag} {fd:FuncData} {ps:List Str} (h:∀ us:List Value,us.length=ps.length->bindArgs fd ⟨us,[]⟩=pure (ps.zip us)):Binds K fd ps []:=fun s us _ hl=>by
 rw [List.append_nil] at hl ⊢
 exact .of_eq (h us hl)
def Passes (CX:CXT) (X:Cx) (E:XK):Prop:=∀ (pins:List (Addr × Obj)) (σ:St) (H:Hp) (s:Shared) (e:Value) (s':Shared),Inv X pins σ H s->CX X.stack H s E e s'->X.xe e s'
section
variable {X:Cx} {CX:CXT} {k:Nat} {f C:Addr} {fd:FuncData} {ps:List Str} {sp:Sp} {dvs:List V} {ds:List Value} {E:XK} {x m:Str} {p pos apos:Pos} {e o:Expr} {es:List Expr} {ta:TE} {t:TA}
theorem run_fn {pins:List (Addr × Obj)} {σ:St} {H:Hp} {s:Shared} {Q:VK} {us:List Value} {vs:List V} (F:FnOk X.prog X.w X.K X.mg X.base CX k f fd ps sp) (hr:Room k X.A) (hb:Binds X.K fd ps ds) (hd:Vals dvs ds) (hx:Passes CX X E)
  (I:Inv X pins σ H s) (r:Vals vs us) (h:sp (vs++dvs) H Q E):wpAny (model X.prog X.w) X.A (call (.ref f) us) (EP X pins σ Q) X.xe s:=by
 have r2:Vals (vs++dvs) (us++ds):=r.append hd
 have hl:(us++ds).length=ps.length:=by rw [<-r2.length];exact F.len _ _ _ _ h
 refine wpAny_call (codeAny_mono (F.run X.A X.stack s H ⟨us,[]⟩ (us++ds) (vs++dvs) Q E hr I.env0 (hb s us I.kIn hl) r2 h) fun r s' hq=>?_)
 cases r with
 | error e=>exact hx pins σ H s e s' I hq
 | ok fl=>
  cases fl with
  | ret u=>exact I.after hq
  | next=>exact False.elim hq
  | brk=>exact False.elim hq
  | cont=>exact False.elim hq
theorem pe_call (F:FnOk X.prog X.w X.K X.mg X.base CX k f fd ps sp) (hr:Room k X.A) (hg:Gl X x) (hm:X.mg x=some (.ref f)) (hk:PySem.W.keepIn X.K (.ref f)=true) (hb:Binds X.K fd ps ds) (hd:Vals dvs ds) (hx:Passes CX X E)
  (ha:PA X (e :: es) t) (hdb:(x == ("__debug__" : Str))=false:=by decide) (he:starEach (e :: es) X.env=(false,eval e X.env) :: starEach es X.env:=by rfl) (hpl:(backTo pos (starEach es X.env)).any (·.1)=false:=by rfl) :
  PE X (.Call (.Name x p) (e :: es) [] pos) (tCall sp dvs E t):=by
 intro pins s σ H Q I h
 refine wpAny_Call_Name_kw (ld_glob I hg hm ?_ hdb)
 refine PySem.W.callWith_K (h₀:=X.base) I.ok.mod.kin hk (thn (ha pos pins s σ H _ I h) fun us s1 ⟨vs,H1,I1,r,q⟩=>⟨I1.kIn,?_⟩) he hpl
 exact run_fn F hr hb hd hx I1 r q
end
section
variable {X:Cx} {CX:CXT} {k:Nat} {f C:Addr} {fd:FuncData} {ps ks:List Str} {sp:Sp} {E:XK} {x m:Str} {p pos apos kpos:Pos} {e o:Expr} {es:List Expr} {kws:List Keyword} {te ta:TE} {t tk:TA} {nm:Option Str}
variable {g:List Value->List Value->List Value} {gV:List V->List V->List V}
end
structure FnScope (N P:List Str) (sc:Scope):Prop where
 kind:sc.kind=.function
 co:sc.isCoroutine=false
 gen:sc.isGenerator=false
 nd:N.Nodup
 pre:N.take P.length=P
 par:∀ x ∈ P,sc.names.lookup x=some .local\/sc.names.lookup x=some .cell
 nofree:∀ y ∈ sc.names,y.2 ≠ .free
theorem bindL_out {kindOf:Str->Option NameKind} {x:Str}:∀ {binds:List (Str × Value)} {m:Str->Option Value},(∀ v,(x,v) ∉ binds)->bindL kindOf binds m x=m x
 | [],_,_=>rfl
 | (n,v) :: r,m,h=>by
  unfold bindL
  rw [bindL_out fun w hw=>h w (List.mem_cons_of_mem _ hw)]
  split
  ·have:x ≠ n:=by rintro rfl;exact h v List.mem_cons_self
   simp [this]
  ·rfl
theorem bindC_out {kindOf:Str->Option NameKind} {x:Str}:∀ {binds:List (Str × Value)} {m:Str->Option Value},(∀ v,(x,v) ∉ binds)->bindC kindOf binds m x=m x
 | [],_,_=>rfl
 | (n,v) :: r,m,h=>by
  unfold bindC
  rw [bindC_out fun w hw=>h w (List.mem_cons_of_mem _ hw)]
  split
  ·rfl
  ·have:x ≠ n:=by rintro rfl;exact h v List.mem_cons_self
   simp [this]
theorem bindL_get {kindOf:Str->Option NameKind} {x:Str} {v:Value}:∀ {P:List Str} {vs:List Value} {i:Nat} {m:Str->Option Value},P.Nodup->P[i]?=some x->vs[i]?=some v->kindOf x=some .local →
  bindL kindOf (P.zip vs) m x=some v
 | [],_,_,_,_,h,_,_=>by simp at h
 | _ :: _,[],_,_,_,_,h,_=>by simp at h
 | p :: P,w :: vs,0,m,nd,h1,h2,hk=>by
  simp at h1 h2;subst h1;subst h2
  show bindL kindOf ((p,w) :: P.zip vs) m p=_
  unfold bindL
  rw [bindL_out fun v hv=>(List.nodup_cons.mp nd).1 (List.of_mem_zip hv).1,if_pos hk]
  simp
 | p :: P,w :: vs,i+1,m,nd,h1,h2,hk=>by
  show bindL kindOf ((p,w) :: P.zip vs) m x=_
  unfold bindL
  exact bindL_get (i:=i) (List.nodup_cons.mp nd).2 (by simpa using h1) (by simpa using h2) hk
theorem bindC_get {kindOf:Str->Option NameKind} {x:Str} {v:Value}:∀ {P:List Str} {vs:List Value} {i:Nat} {m:Str->Option Value},P.Nodup->P[i]?=some x->vs[i]?=some v->kindOf x ≠ some .local →
  bindC kindOf (P.zip vs) m x=some v
 | [],_,_,_,_,h,_,_=>by simp at h
 | _ :: _,[],_,_,_,_,h,_=>by simp at h
 | p :: P,w :: vs,0,m,nd,h1,h2,hk=>by
  simp at h1 h2;subst h1;subst h2
  show bindC kindOf ((p,w) :: P.zip vs) m p=_
  unfold bindC
  rw [bindC_out fun v hv=>(List.nodup_cons.mp nd).1 (List.of_mem_zip hv).1,if_neg hk]
  simp
 | p :: P,w :: vs,i+1,m,nd,h1,h2,hk=>by
  show bindC kindOf ((p,w) :: P.zip vs) m x=_
  unfold bindC
  exact bindC_get (i:=i) (List.nodup_cons.mp nd).2 (by simpa using h1) (by simpa using h2) hk
def start (N:List Str) (vs:List V):St:=vs.map some++List.replicate (N.length - vs.length) none
def cxOf (CX:CXT) (P:Program) (w:World) (K:PySem.W.Frag) (mg:Str->Option Value) (base:Heap) (N:List Str) (qual:Str) (scope:Scope) (f:Addr) (cd:Value) (A:Around) (outer:List Env) (s:Shared) (H:Hp) (E:XK):Cx where
 prog:=P
 w:=w
 K:=K
 mg:=mg
 base:=base
 A:=A.deeper (envOfC qual scope s.heap.objs.size f cd)
 N:=N
 s₀:=s
 H₀:=H
 env:=envOfC qual scope s.heap.objs.size f cd
 outer:=outer
 stack:=envOfC qual scope s.heap.objs.size f cd :: outer
 ex:=[]
 calm:=true
 fn:=fun _=>true
 pn:=[]
 xe:=fun e s'=>wpAny (model P w) (A.deeper (envOfC qual scope s.heap.objs.size f cd)) (leaving (envOfC qual scope s.heap.objs.size f cd) e) (fun _ s''=>CX outer H s E e s'') (fun e' s''=>CX outer H s E e' s'') s'
theorem cell_has {sc:Scope} {n:Nat} {x:Str} (h:sc.names.lookup x=some .cell):∃ c,(cellsFrom n sc.names []).lookup x=some c:=by
 have q:=PySem.W.cellsFrom_some sc.names n [] (.inl h)
 exact Option.isSome_iff_exists.mp q
theorem inv_start {CX:CXT} {P:Program} {w:World} {K:PySem.W.Frag} {mg:Str->Option Value} {base:Heap} {N ps:List Str} {qual:Str} {scope:Scope} {f:Addr} {cd:Value} {A:Around} {outer:List Env} {s s1:Shared} {H:Hp} {E:XK} {us:List Value} {vs:List V}
  (S:FnScope N ps scope) (hd:A.handled=none) (e0:Env0 P w K mg base A outer s H) (hl:vs.length=ps.length) (r:Vals vs us)
  (x:InCallC s s.heap.objs.size (bindL (envOfC qual scope s.heap.objs.size f cd).kindOf (ps.zip us) fun _=>none) (cellsFrom (s.heap.objs.size+1) scope.names []) (bindC (envOfC qual scope s.heap.objs.size f cd).kindOf (ps.zip us) fun _=>none) s1) :
  Inv (cxOf CX P w K mg base N qual scope f cd A outer s H E) [] (start N vs) H s1:=by
 have hpl:ps.length<=N.length:=by have:=congrArg List.length S.pre;rw [List.length_take] at this;omega
 obtain ⟨h1,tk,rfl,hk⟩:=x.done
 have noA:∀ b:Addr,b ∉ (cxOf CX P w K mg base N qual scope f cd A outer s H E).ex:=fun b z=>absurd (show b ∈ ([]:List Addr) from z) (by simp)
 refine ⟨⟨e0.mod,S.kind,rfl,rfl,Nat.le_refl _,fun y z c h1 h2=>?_,fun y hy=>?_,fun y c _ h=>?_,fun _=>hd,Around.frames_deeper e0.frames,.inr ⟨rfl,rfl⟩,fun b z=>absurd z (noA b),e0.bs,e0.bsz,fun b _ _=>noA b,fun b z=>absurd z (noA b),e0.funs,e0.frf⟩,
  rfl,e0.bare,Un.kept hk,⟨_,x.toInCall.ns,fun i y v h1 h2 h3=>?_⟩,fun y c h=>⟨_,x.cell y c h⟩,e0.hok.fresh (Nat.le_refl _),fun y c h=>?_,fun p hp=>absurd (show p ∈ ([]:List (Addr × Obj)) from hp) (by simp),e0.hok.kept hk,?_⟩
 ·exact name_of_addr x.apart (PySem.mem_of_lookup h1) (PySem.mem_of_lookup h2)
 ·have hy:scope.names.lookup y=some .cell\/scope.names.lookup y=some .free:=hy
  rcases hy with hy | hy
  ·exact cell_has hy
  ·exact absurd rfl (S.nofree _ (PySem.mem_of_lookup hy))
 ·exact Nat.le_of_lt (x.above y c (PySem.mem_of_lookup h))
 ·have hi:i < vs.length:=by
   unfold start at h2
   by_cases hi:i < vs.length
   ·exact hi
   ·rw [List.getElem?_append_right (by simpa using hi)] at h2
    rw [List.getElem?_replicate] at h2
    split at h2 <;> cases h2
  have ha:vs[i]?=some v:=by
   unfold start at h2
   rw [List.getElem?_append_left (by simpa using hi),List.getElem?_map] at h2
   cases e:vs[i]? with
   | none=>rw [e] at h2;cases h2
   | some a=>rw [e] at h2;cases h2;rfl
  obtain ⟨u,hu,rv⟩:=r.get ha
  have hp:ps[i]?=some y:=by
   rw [<-S.pre,List.getElem?_take_of_lt (by omega)];exact h1
  have ndP:ps.Nodup:=by rw [<-S.pre];exact S.nd.sublist (List.take_sublist _ _)
  refine ⟨u,rv,?_⟩
  rcases S.par y (List.mem_of_getElem? hp) with k | k
  ·exact .inl ⟨k,bindL_get ndP hp hu k⟩
  ·obtain ⟨c,e⟩:=cell_has (n:=s.heap.objs.size+1) k
   refine .inr ⟨.inl k,c,e,?_⟩
   have q:=x.cell y c e
   rw [bindC_get ndP hp hu (by show scope.names.lookup y ≠ _;rw [k];decide)] at q
   exact q
 ·exact e0.hok.fresh (Nat.le_of_lt (x.above y c (PySem.mem_of_lookup h)))
 ·unfold start
  show _=N.length
  rw [List.length_append,List.length_map,List.length_replicate]
  omega
theorem fn_of {CX:CXT} {P:Program} {w:World} {K:PySem.W.Frag} {mg:Str->Option Value} {base:Heap} {k:Nat} {f:Addr} {name qual:Str} {params:Arguments} {body:List Stmt} {scope:Scope} {dV kV doc pm cdv ct oc:Value} {an od:Option Addr}
  {osl:Array (Option Value)} {N ps:List Str} {sp:Sp} (lk:K.lookup f=some ⟨oc,od,.func (PySem.W.fnOf name qual params body scope dV kV doc pm an cdv ct),osl⟩) (hcd:PySem.W.codeIn K cdv qual=true) (S:FnScope N ps scope)
  (len:∀ vs H Q E,sp vs H Q E->vs.length=ps.length)
  (hbody:∀ (A:Around) (outer:List Env) (s:Shared) (H:Hp) (vs:List V) (Q:VK) (E:XK),Room k (A.deeper (envOfC qual scope s.heap.objs.size f cdv))->sp vs H Q E →
   ∃ t,PSs (cxOf CX P w K mg base N qual scope f cdv A outer s H E) body t/\t { nx:=fun _ H'=>Q .non H',rt:=Q } (start N vs) H) :
  FnOk P w K mg base CX (k+1) f (PySem.W.fnOf name qual params body scope dV kV doc pm an cdv ct) ps sp:=by
 refine ⟨len,fun A outer s H args us vs Q E hr e0 hb r hsp=>?_⟩
 have hl:=len _ _ _ _ hsp
 have KX:K.In s.heap:=e0.mod.kin.keeps fun b o e=>(e0.bs b o e).1
 have lim:s.heap.NoLimit:=e0.mod.nolimit.keeps fun b o e=>(e0.bs b o e).1
 have hkind:∀ y ∈ ps.zip us,scope.names.lookup y.1=some .local\/(scope.names.lookup y.1=some .cell/\((cellsFrom (s.heap.objs.size+1) scope.names []).lookup y.1).isSome=true):=fun ⟨n,v⟩ hy=>by
  rcases S.par n (List.of_mem_zip hy).1 with q | q
  ·exact .inl q
  ·exact .inr ⟨q,PySem.W.cellsFrom_some _ _ _ (.inl q)⟩
 refine codeAny_call_function hr.depth (KX _ _ lk) rfl S.co S.gen rfl (PySem.W.codeRec_of KX hcd) (hb _ _ _ _ ?_)
 refine wpAny_newFunctionEnv_cells S.kind hkind fun env he s1 x=>?_
 subst he
 refine ⟨lim.keeps x.toInCall.keep,codeAny_func ?_⟩
 obtain ⟨t,ht,hq⟩:=hbody A outer s H vs Q E (hr.deeper _) hsp
 have I:Inv (cxOf CX P w K mg base N qual scope f cdv A outer s H E) [] (start N vs) H s1:=inv_start S hr.hd e0 hl r x
 refine wpAny_mono (ht [] s1 (start N vs) H _ I hq) (fun fl s' hs=>?_) fun e s' hs=>hs
 have fin:∀ {σ':St} {H':Hp} {v:V} {u:Value},Inv (cxOf CX P w K mg base N qual scope f cdv A outer s H E) [] σ' H' s'->RelV v u->Q v H'->CE outer P w H s Q u s':=
  fun {σ' H' v u} J rv q=>⟨v,H',J.os,J.bare,J.base,J.hok,rv,q⟩
 cases fl with
 | ret u=>
  obtain ⟨v,σ',H',J,rv,q⟩:=hs
  exact fin J rv q
 | next=>
  obtain ⟨σ',H',J,q⟩:=hs
  exact fin (v:=V.non) (u:=Value.none) J rfl q
 | brk=>
  obtain ⟨_,_,_,q⟩:=hs
  exact False.elim q
 | cont=>
  obtain ⟨_,_,_,q⟩:=hs
  exact False.elim q
end L2
namespace L2
open PySem PySem.Spec PyProof.Rows
section
variable {X:Cx} {x:Str} {p pos:Pos} {e:Expr} {es:List Expr} {t:TA} {id T:String} {r:List V->Hp->VK->Prop}
def tCB (r:List V->Hp->VK->Prop) (t:TA):TE:=fun σ H Q=>t σ H fun vs H1=>r vs H1 Q
theorem pe_callB (hc:CallR X (.builtin id) r) (hg:Gl X x) (hm:X.mg x=none) (hv:bootBuiltins x=some (.builtin id)) (ha:PA X (e :: es) t) (hn:x ≠ "__name__" := by decide) (hdb:(x == ("__debug__" : Str))=false:=by decide)
  (he:starEach (e :: es) X.env=(false,eval e X.env) :: starEach es X.env:=by rfl) (hpl:(backTo pos (starEach es X.env)).any (·.1)=false:=by rfl):PE X (.Call (.Name x p) (e :: es) [] pos) (tCB r t):=by
 intro pins s σ H Q I h
 refine wpAny_Call_Name_kw (ld_blt I hg hm hv ?_ hn hdb)
 exact PyProof.Rows.callWith_builtin1 (thn (ha pos pins s σ H _ I h) fun us s1 ⟨vs,H1,I1,r1,q1⟩=>hc pins s1 σ H1 vs us Q I1 r1 q1) he hpl
theorem pe_callTy (hc:CallR X (.type T) r) (hg:Gl X x) (hm:X.mg x=none) (hv:bootBuiltins x=some (.type T)) (ha:PA X (e :: es) t) (hn:x ≠ "__name__" := by decide) (hdb:(x == ("__debug__" : Str))=false:=by decide)
  (he:starEach (e :: es) X.env=(false,eval e X.env) :: starEach es X.env:=by rfl) (hpl:(backTo pos (starEach es X.env)).any (·.1)=false:=by rfl):PE X (.Call (.Name x p) (e :: es) [] pos) (tCB r t):=by
 intro pins s σ H Q I h
 refine wpAny_Call_Name_kw (ld_blt I hg hm hv ?_ hn hdb)
 exact PyProof.Rows.callWith_type1 (thn (ha pos pins s σ H _ I h) fun us s1 ⟨vs,H1,I1,r1,q1⟩=>hc pins s1 σ H1 vs us Q I1 r1 q1) he hpl
end
end L2
namespace HT
open PySem PyProof.Rows
section
open PySem.SeqAt
open PySem.AutoSeq1 (wpAny_loadPart')
open PySem.MeetsSeq PySem.MeetsSeq2 PySem.MeetsSeq3
end
section
variable {prog:Program} {w:World} {A:Around} {E:Value->Shared->Prop} {s:Shared}
theorem cat_tup {t b:Addr} {vs ws:List Value} {Q:Value->Shared->Prop} (ht:IsTup s.heap t vs.toArray) (hb:IsTup s.heap b ws.toArray) (hv:vs ≠ [])
  (h1:ws=[]->Q (.ref t) s) (h2:ws ≠ []->Q (.ref s.heap.objs.size) { s with heap:=s.heap.push { cls:=.type "tuple",data:=.seq (vs++ws).toArray } })
  (hsz:vs.length+ws.length<=sizeLine):wpAny (model prog w) A (binaryOp .Add (.ref t) (.ref b)) Q E s:=by
 obtain ⟨⟨cls,dd,data,sl⟩,ho,hc,n,hd⟩:=id ht
 obtain ⟨⟨cls2,dd2,data2,sl2⟩,ho2,hc2,n2,hd2⟩:=id hb
 simp only at hc hd hc2 hd2
 subst hc hd hc2 hd2
 have e:vs.toArray++ws.toArray=(vs++ws).toArray:=by simp
 by_cases hw:ws=[]
 ·exact concat_meets ⟨_,ho,rfl⟩ ⟨_,ho2,rfl⟩ noFill_tuple_add seq_tuple_add PySem.F.slot_tuple_add PySem.F.entry_tuple_add (PySem.F.args_tuple_add_2 _ _)
   (tuple_addW1 t b vs.toArray ws.toArray n n2 dd dd2 sl sl2 (by simpa using hv) (by simp [hw])) ⟨ho,ho2,h1 hw⟩
 ·refine concat_meets ⟨_,ho,rfl⟩ ⟨_,ho2,rfl⟩ noFill_tuple_add seq_tuple_add PySem.F.slot_tuple_add PySem.F.entry_tuple_add (PySem.F.args_tuple_add_2 _ _)
   (tuple_addW2 t b vs.toArray ws.toArray n n2 dd dd2 sl sl2 (by simpa using hv) (by simpa using hw) (by rw [List.size_toArray,List.size_toArray];exact hsz)) ⟨ho,ho2,?_⟩
  rw [e]
  exact h2 hw
def sIx (n d:Nat):Option Int->Nat
 | none=>d
 | some v=>if v < 0 then (v+(n:Int)).toNat else min v.toNat n
theorem sIx_none (n d:Nat):sIx n d none=d:=rfl
theorem sIx_nat (n d k:Nat):sIx n d (some (k:Int))=min k n:=by
 show (if (k:Int) < 0 then ((k:Int)+(n:Int)).toNat else min (k:Int).toNat n)=min k n
 rw [if_neg (by omega),Int.toNat_natCast]
theorem sIx_le (n d:Nat) (hd:d<=n) (o:Option Int):sIx n d o<=n:=by
 cases o with
 | none=>exact hd
 | some v=>
  show (if v < 0 then (v+(n:Int)).toNat else min v.toNat n)<=n
  by_cases hv:v < 0
  ·rw [if_pos hv];omega
  ·rw [if_neg hv];exact Nat.min_le_right _ _
theorem clip_eq (v:Int) (n d:Nat):(if v < 0 then max (v+(n:Int)) 0 else min v (n:Int))=((sIx n d (some v):Nat):Int):=by
 show (if v < 0 then max (v+(n:Int)) 0 else min v (n:Int))=(((if v < 0 then (v+(n:Int)).toNat else min v.toNat n):Nat):Int)
 by_cases hv:v < 0
 ·simp only [if_pos hv];omega
 ·simp only [if_neg hv];omega
theorem adjust_gen (lo hi:Option Int) (n:Nat):Builtin.Slice.sliceAdjust lo hi 1 (n:Int)=(((sIx n 0 lo:Nat):Int),((sIx n n hi:Nat):Int)):=by
 have h1:¬ ((1:Int) < 0):=by omega
 unfold Builtin.Slice.sliceAdjust
 simp only [h1,if_false]
 refine Prod.ext ?_ ?_
 ·cases lo with
  | none=>rfl
  | some v=>exact clip_eq v n 0
 ·cases hi with
  | none=>rfl
  | some v=>exact clip_eq v n n
theorem places_gen (i j:Nat):Builtin.Slice.slicePlaces (i:Int) (j:Int) 1=j - i:=by
 unfold Builtin.Slice.slicePlaces
 have h1:(1:Int) > 0:=by omega
 simp only [h1,if_true,Int.ediv_one]
 split <;> omega
theorem slicePart_ {v:Value} {o:Option Int} {Q:Option Int->Shared->Prop} (p:IsPart v o) (h:Q o s):wpAny (model prog w) A (Builtin.Slice.slicePartIndex v) Q E s:=by
 cases p with
 | none=>exact slicePart_none h
 | int i t=>exact slicePart_int h
theorem sliceApplied_gen {sl:Addr} {vl vu:Value} {lo hi:Option Int} {n:Nat} {Q:Int × Int × Nat->Shared->Prop} (hs:s.heap.IsSliceOf sl vl vu .none) (pl:IsPart vl lo) (pu:IsPart vu hi)
  (h:Q (((sIx n 0 lo:Nat):Int),1,sIx n n hi - sIx n 0 lo) s):wpAny (model prog w) A (Builtin.Slice.sliceApplied (.ref sl) (pure (n:Int))) Q E s:=by
 obtain ⟨os,hos,hcs,hds⟩:=id hs
 unfold Builtin.Slice.sliceApplied Builtin.Slice.sliceFields
 refine wpAny_bind (wpAny_bind (wpAny_field hos hds (x:=vl) rfl (wpAny_bind (wpAny_field hos hds (x:=vu) rfl (wpAny_bind (wpAny_field hos hds (x:=.none) rfl (wpAny_pure ?_)))))))
 refine wpAny_bind (slicePart_none ?_)
 show wpAny _ _ (if ((1:Int) == 0)=true then _ else _) _ _ s
 rw [if_neg (by decide)]
 refine wpAny_bind (slicePart_ pl (wpAny_bind (slicePart_ pu (wpAny_bind (wpAny_pure ?_)))))
 show wpAny _ _ (match Builtin.Slice.sliceAdjust lo hi 1 (n:Int) with | (lo,hi)=>pure (lo,(1:Int),Builtin.Slice.slicePlaces lo hi 1)) _ _ s
 rw [adjust_gen lo hi n]
 show wpAny _ _ (pure (((sIx n 0 lo:Nat):Int),(1:Int),Builtin.Slice.slicePlaces ((sIx n 0 lo:Nat):Int) ((sIx n n hi:Nat):Int) 1)) _ _ s
 rw [places_gen]
 exact wpAny_pure h
theorem pick_gen (xs:Array Value) (i k:Nat):((List.range k).filterMap fun (m:Nat)=>xs[((i:Int)+(m:Int) * 1).toNat]?).toArray=((xs.toList.drop i).take k).toArray:=by
 have e:(fun (m:Nat)=>xs[((i:Int)+(m:Int) * 1).toNat]?)=fun m=>xs[i+m]?:=by
  funext m
  have:((i:Int)+(m:Int) * 1).toNat=i+m:=by omega
  rw [this]
 rw [e]
 have:=pick_run xs i k
 rw [List.filterMap_map] at this
 have e2:((fun x=>xs[x]?) ∘ fun x=>i+x)=fun m=>xs[i+m]?:=rfl
 rw [e2] at this
 rw [this]
theorem getItem_tuple_cut {t sl:Addr} {items:Array Value} {vl vu:Value} {lo hi:Option Int} {Q:Value->Shared->Prop} (ht:IsTup s.heap t items) (hs:s.heap.IsSliceOf sl vl vu .none) (pl:IsPart vl lo) (pu:IsPart vu hi)
  (hw:¬ (sIx items.size 0 lo=0/\sIx items.size items.size hi=items.size))
  (h:Q (.ref s.heap.objs.size) { s with heap:=s.heap.push { cls:=.type "tuple",data:=.seq ((items.toList.drop (sIx items.size 0 lo)).take (sIx items.size items.size hi - sIx items.size 0 lo)).toArray } })
  (hsz:items.size<=sizeLine):wpAny (model prog w) A (getItem (.ref t) (.ref sl)) Q E s:=by
 have htake:sizeOk (.seq ((items.toList.drop (sIx items.size 0 lo)).take (sIx items.size items.size hi - sIx items.size 0 lo)).toArray):=by
  show ((items.toList.drop (sIx items.size 0 lo)).take (sIx items.size items.size hi - sIx items.size 0 lo)).toArray.size<=sizeLine
  rw [List.size_toArray,List.length_take,List.length_drop,Array.length_toList]
  omega
 have hj:sIx items.size items.size hi<=items.size:=sIx_le _ _ (Nat.le_refl _) hi
 obtain ⟨os,hos,hcs,hds⟩:=id hs
 have hTs:s.TypeIs (.ref sl) "slice" := ⟨os,hos,hcs⟩
 unfold getItem
 try with_reducible refine wpAny_holding ?_
 first | refine wpAny_bind (wpAny_pure ?_) | skip
 refine wpAny_bind (wpAny_sequenceKey ht.typeIs (by decide) ?_)
 refine wpAny_bind (wpAny_callSpecial?_slot (name:=Str.ofString "__getitem__") ht.typeIs PyProof.Rows.slot_tuple_getitem
  (wpAny_call_entry PyProof.Rows.slot_tuple_getitem ht.typeIs entry_tuple_getitem ?_ (args_tuple_getitem _ _)))
 show wpAny _ _ (Builtin.Tuple.tupleItemsOf (.ref t) >>= _) _ _ s
 refine wpAny_bind (tupleItemsOf_ ht ?_)
 refine wpAny_bind (wpAny_typeOf hTs ?_)
 rw [if_pos (by decide)]
 refine wpAny_bind (sliceApplied_gen hs pl pu ?_)
 have hno:¬ ((((sIx items.size 0 lo:Nat):Int) == 0 && (1:Int) == 1 && (sIx items.size items.size hi - sIx items.size 0 lo) == items.size)=true):=by
  intro q
  rw [Bool.and_eq_true,Bool.and_eq_true] at q
  have q1:((sIx items.size 0 lo:Nat):Int)=0:=eq_of_beq q.1.1
  have q2:sIx items.size items.size hi - sIx items.size 0 lo=items.size:=eq_of_beq q.2
  exact hw ⟨by omega,by omega⟩
 show wpAny _ _ (if (((sIx items.size 0 lo:Nat):Int) == 0 && (1:Int) == 1 && (sIx items.size items.size hi - sIx items.size 0 lo) == items.size)=true then _ else _) _ _ s
 rw [if_neg hno,pick_gen]
 first
  | exact wpAny_bind (m:=Builtin.Tuple.tupleExact _) (wpAny_newObj_type (wpAny_pure ⟨_,rfl,wpAny_pure h⟩) htake)
  | exact wpAny_bind (m:=Builtin.Tuple.tupleExact _) (wpAny_newObj_type (wpAny_bind (wpAny_pure (wpAny_pure ⟨_,rfl,wpAny_pure h⟩))) htake)
  | exact wpAny_bind (wpAny_bind (m:=Builtin.Tuple.tupleExact _) (wpAny_newObj_type (wpAny_pure (wpAny_pure ⟨_,rfl,wpAny_pure h⟩)) htake))
  | exact wpAny_bind (wpAny_bind (m:=Builtin.Tuple.tupleExact _) (wpAny_newObj_type (wpAny_pure ⟨_,rfl,wpAny_pure h⟩) htake))
end
end HT
namespace L2
open PySem PySem.Spec PyProof.Rows
abbrev TO:=St->Hp->(Option Int->Hp->Prop)->Prop
def PO (X:Cx) (e:Option Expr) (t:TO):Prop:=
 ∀ (pins:List (Addr × Obj)) (s:Shared) (σ:St) (H:Hp) (Q:Option Int->Hp->Prop),Inv X pins σ H s->t σ H Q →
  wpAny (model X.prog X.w) X.A (evalPart e X.env) (fun u s'=>∃ o H',Inv X pins σ H' s'/\IsPart u o/\Q o H') X.xe s
def tNoPart:TO:=fun _ H Q=>Q none H
def tPart (t:TE):TO:=fun σ H Q=>t σ H fun x H1=>∃ i,x=.int i/\Q (some i) H1
section
variable {X:Cx} {e:Expr} {te:TE} {lo hi:Option Expr} {tl th:TO} {pos p2:Pos}
theorem po_none:PO X none tNoPart:=by
 intro pins s σ H Q I h
 rw [evalPart_none]
 exact wpAny_pure ⟨none,H,I,.none,h⟩
theorem po_some (h:PE X e te):PO X (some e) (tPart te):=by
 intro pins s σ H Q I hw
 rw [evalPart_some]
 refine thn (h pins s σ H _ I hw) fun u s1 ⟨x,H1,I1,r1,q1⟩=>?_
 obtain ⟨i,rfl,q⟩:=q1
 obtain ⟨t,rfl⟩:=r1
 exact ⟨some i,H1,I1,.int i t,q⟩
def SlR (X:Cx) (r:V->Option Int->Option Int->Hp->VK->Prop):Prop:=
 ∀ (pins:List (Addr × Obj)) (s:Shared) (σ:St) (H:Hp) (x:V) (v vl vu:Value) (lo hi:Option Int) (sl:Addr) (Q:VK),Inv X pins σ H s->RelV x v->s.heap.IsSliceOf sl vl vu .none->IsPart vl lo->IsPart vu hi->r x lo hi H Q →
  ∃ T id,typeLookup (.type T) "__getitem__" = pure (some (.builtin id))/\s.TypeIs v T/\wpAny (model X.prog X.w) X.A (getItem v (.ref sl)) (EP X pins σ Q) X.xe s
def tSl (r:V->Option Int->Option Int->Hp->VK->Prop) (te:TE) (tl th:TO):TE:=fun σ H Q=>te σ H fun x H1=>tl σ H1 fun l H2=>th σ H2 fun u H3=>r x l u H3 Q
theorem pe_slice {r:V->Option Int->Option Int->Hp->VK->Prop} (hr:SlR X r) (he:PE X e te) (hl:PO X lo tl) (hu:PO X hi th):PE X (.Subscript e (.Slice lo hi none p2) pos) (tSl r te tl th):=by
 intro pins s σ H Q I h
 refine Subscript_ (thn (he pins s σ H _ I h) fun v s1 ⟨x,H1,I1,r1,q1⟩=>?_)
 refine wpAny_Slice (thn (hl pins s1 σ H1 _ I1 q1) fun vl s2 ⟨l,H2,I2,pl,q2⟩=>thn (hu pins s2 σ H2 _ I2 q2) fun vu s3 ⟨u,H3,I3,pu,q3⟩=>?_)
 rw [evalPart_none]
 refine wpAny_pure ?_
 have I4:Inv X pins σ H3 { s3 with heap:=s3.heap.push { cls:=.type "slice",data:=.fields #[vl,vu,.none] } }:=I3.kept (t':=s3.toks) fun b ob q=>Heap.get?_push_of_some _ q
 obtain ⟨T,id,hT,ht,hg⟩:=hr pins { s3 with heap:=s3.heap.push { cls:=.type "slice",data:=.fields #[vl,vu,.none] } } σ H3 x v vl vu l u s3.heap.objs.size Q I4 r1 (Heap.IsSliceOf.new ..) pl pu q3
 show wpAny (model X.prog X.w) X.A (subscriptTail e (.Slice lo hi none p2) v (.ref s3.heap.objs.size)) (EP X pins σ Q) X.xe { s3 with heap:=s3.heap.push { cls:=.type "slice",data:=.fields #[vl,vu,.none] } }
 exact tail_any (ops:=[.ref s3.heap.objs.size,v]) ht hT hg (by with_unfolding_all rfl)
def cutV (xs:List V) (lo hi:Option Int):List V:=(xs.drop (HT.sIx xs.length 0 lo)).take (HT.sIx xs.length xs.length hi - HT.sIx xs.length 0 lo)
theorem cutV_length (xs:List V) (lo hi:Option Int):(cutV xs lo hi).length<=xs.length:=by
 unfold cutV
 rw [List.length_take,List.length_drop]
 omega
def rSlT (K:PySem.W.Frag):V->Option Int->Option Int->Hp->VK->Prop:=fun x lo hi H Q=>∃ a xs,x=.ref a/\SqT K H a xs ∧
 ¬ (HT.sIx xs.length 0 lo=0/\HT.sIx xs.length xs.length hi=xs.length)/\∀ p,H p=none->Q (.ref p) (upd H p (.tup (cutV xs lo hi)))
theorem sl_tup:SlR X (rSlT X.K):=by
 intro pins s σ H x v vl vu lo hi sl Q I rx hs pl pu h
 obtain ⟨a,xs,rfl,hx,hw,q⟩:=h
 cases rx
 obtain ⟨its,r,ht,hz⟩:=I.tuple hx
 have hlen:its.toArray.size=xs.length:=by rw [List.size_toArray];exact r.length.symm
 refine ⟨"tuple",_,PyProof.Rows.slot_tuple_getitem.lookup,ht.typeIs,?_⟩
 refine HT.getItem_tuple_cut ht hs pl pu (by rw [hlen];exact hw) ?_ (by rw [hlen];exact hz)
 rw [hlen]
 refine ⟨.ref s.heap.objs.size,_,I.laid (t':=s.toks) (o:=.tup (cutV xs lo hi)) (fun b ob q=>Heap.get?_push_of_some _ q) (Nat.le_refl _) ?_,rfl,q _ (I.hok.fresh (Nat.le_refl _))⟩
 exact ⟨Nat.le_trans (cutV_length xs lo hi) hz,_,(r.drop (HT.sIx xs.length 0 lo)).take (HT.sIx xs.length xs.length hi - HT.sIx xs.length 0 lo),IsTup.new _ _⟩
def rCatT (K:PySem.W.Frag):R2:=fun x y H Q=>∃ a b xs ys,x=.ref a/\y=.ref b/\SqT K H a xs/\SqT K H b ys/\xs ≠ []/\xs.length+ys.length<=sizeLine ∧
 (ys=[]->Q (.ref a) H)/\(ys ≠ []->∀ p,H p=none->Q (.ref p) (upd H p (.tup (xs++ys))))
theorem Vals.nil_iff {xs:List V} {us:List Value} (r:Vals xs us):us=[] ↔ xs=[]:=by
 cases r with
 | nil=>simp
 | cons _ _=>simp
theorem op_catT:OpR X (binaryOp .Add) (rCatT X.K):=by
 intro pins s σ H x y v u Q I rx ry h
 obtain ⟨a,b,xs,ys,rfl,rfl,ha,hb,hx,hz,q1,q2⟩:=h
 cases rx
 cases ry
 obtain ⟨its,r1,p1,_⟩:=I.tuple ha
 obtain ⟨its2,r2,p2,_⟩:=I.tuple hb
 refine HT.cat_tup p1 p2 (fun z=>hx (r1.nil_iff.mp z)) (fun z=>⟨.ref a,H,I,rfl,q1 (r2.nil_iff.mp z)⟩) (fun z=>?_) (by rw [<-r1.length,<-r2.length];exact hz)
 refine ⟨.ref s.heap.objs.size,_,I.laid (t':=s.toks) (o:=.tup (xs++ys)) (fun b ob q=>Heap.get?_push_of_some _ q) (Nat.le_refl _) ?_,rfl,q2 (fun w=>z (r2.nil_iff.mpr w)) _ (I.hok.fresh (Nat.le_refl _))⟩
 exact ⟨by rw [List.length_append];exact hz,_,r1.append r2,IsTup.new _ _⟩
end
end L2
namespace L2
open PySem PySem.Spec PyProof.Rows
def ixN (n:Nat) (i:Int):Option Nat:=if 0<=i then (if i < n then some i.toNat else none) else if -(n:Int)<=i then some (i+n).toNat else none
def atI {α:Type} (xs:List α) (i:Int):Option α:=(ixN xs.length i).bind fun j=>xs[j]?
theorem ixN_seq {n:Nat} {i:Int} {j:Nat} (h:ixN n i=some j):seqIndex? i n=some j/\j < n/\-(n:Int)<=i/\i < n:=by
 unfold ixN at h
 by_cases h0:0<=i
 ·rw [if_pos h0] at h
  by_cases h1:i < n
  ·rw [if_pos h1] at h
   have e:i.toNat=j:=Option.some.inj h
   exact ⟨by rw [seqIndex_of h0 h1,e],by omega,by omega,h1⟩
  ·rw [if_neg h1] at h;cases h
 ·rw [if_neg h0] at h
  by_cases h1:-(n:Int)<=i
  ·rw [if_pos h1] at h
   have e:(i+n).toNat=j:=Option.some.inj h
   exact ⟨by rw [seqIndex_neg (by omega) h1,e],by omega,h1,by omega⟩
  ·rw [if_neg h1] at h;cases h
theorem atI_get {α:Type} {xs:List α} {i:Int} {v:α} (h:atI xs i=some v):∃ j,seqIndex? i xs.length=some j/\xs[j]?=some v/\j < xs.length/\-(xs.length:Int)<=i/\i < xs.length:=by
 unfold atI at h
 cases e:ixN xs.length i with
 | none=>rw [e] at h;cases h
 | some j=>
  rw [e] at h
  obtain ⟨h1,h2,h3,h4⟩:=ixN_seq e
  exact ⟨j,h1,h,h2,h3,h4⟩
theorem atI_nat {α:Type} {xs:List α} {j:Nat} {v:α} (h:xs[j]?=some v):atI xs (j:Int)=some v:=by
 have hj:j < xs.length:=(List.getElem?_eq_some_iff.mp h).1
 have e:ixN xs.length (j:Int)=some j:=by
  unfold ixN
  rw [if_pos (by omega),if_pos (by omega)];simp
 unfold atI;rw [e];exact h
theorem atI_last {α:Type} (xs:List α) (v:α):atI (xs++[v]) (-1)=some v:=by
 have hl:(xs++[v]).length=xs.length+1:=by simp
 have e:ixN (xs++[v]).length (-1)=some xs.length:=by
  unfold ixN
  rw [hl,if_neg (by decide),if_pos (by omega)]
  congr 1
  omega
 unfold atI
 rw [e]
 show (xs++[v])[xs.length]?=some v
 simp
def PlainIx (b:Expr):Prop:=∀ o i,subscripted b false o i=operate [o,i] (getItem o i)
def IxR (X:Cx) (r:R2):Prop:=
 ∀ (value slice:Expr) (pins:List (Addr × Obj)) (s:Shared) (σ:St) (H:Hp) (x y:V) (v u:Value) (Q:VK),Inv X pins σ H s->RelV x v->RelV y u->r x y H Q →
  subscripted slice false v u=operate [v,u] (getItem v u)->wpAny (model X.prog X.w) X.A (subscriptTail value slice v u) (EP X pins σ Q) X.xe s
def MtR (X:Cx) (id:String) (r:V->List V->Hp->VK->Prop):Prop:=
 ∀ (pins:List (Addr × Obj)) (s:Shared) (σ:St) (H:Hp) (x:V) (xs:List V) (v:Value) (us:List Value) (Q:VK),Inv X pins σ H s->RelV x v->Vals xs us->r x xs H Q →
  wpAny (model X.prog X.w) X.A (call (.builtin id) (v :: us)) (EP X pins σ Q) X.xe s
section
variable {X:Cx} {a b:Expr} {ta tb:TE} {pos:Pos}
theorem pe_ix {r:R2} (hr:IxR X r) (ha:PE X a ta) (hb:PE X b tb) (hs:PlainIx b):PE X (.Subscript a b pos) (tOp r ta tb):=by
 intro pins s σ H Q I h
 exact Subscript_ (binT ha hb I h fun v u s2 x y H2 I2 rx ry q=>hr a b pins s2 σ H2 x y v u Q I2 rx ry q (hs _ _))
def rIxL (K:PySem.W.Frag):R2:=fun x y H Q=>∃ p xs i v,x=.ref p/\y=.int i/\SqL K H p xs/\atI xs i=some v/\Q v H
def rIxT (K:PySem.W.Frag):R2:=fun x y H Q=>∃ p xs i v,x=.ref p/\y=.int i/\SqT K H p xs/\atI xs i=some v/\Q v H
def rIxS:R2:=fun x y H Q=>∃ z i c,x=.str z/\y=.int i/\z.length<=sizeLine/\atI z.cps.toList i=some c/\Q (.str ⟨#[c]⟩) H
theorem ix_list:IxR X (rIxL X.K):=by
 intro value slice pins s σ H x y v u Q I rx ry h hs
 obtain ⟨p,xs,i,z,rfl,rfl,hq,he,q⟩:=h
 cases rx
 obtain ⟨t,rfl⟩:=ry
 obtain ⟨its,r,pl,hz⟩:=I.list hq
 obtain ⟨j,h1,h2,h3,h4,h5⟩:=atI_get he
 obtain ⟨w,ew,rw'⟩:=r.get h2
 have hl:=r.length
 have hn:=line63
 have fin:EP X pins σ Q w s:=⟨z,H,I,rw',q⟩
 by_cases h0:0<=i
 ·have hj:i.toNat=j:=by
   rw [seqIndex_of h0 h5] at h1
   exact Option.some.inj h1
  exact item_listR pl.isList h0 (by omega) (by rw [hj];simpa using ew) fin hs
 ·have hj:(i+(its.toArray.size:Int)).toNat=j:=by
   rw [seqIndex_neg (by omega) h4] at h1
   rw [List.size_toArray,<-hl]
   exact Option.some.inj h1
  exact subscriptTail_builtinR (x:=w) pl.isList.typeIs slot_list_getitem.lookup
   (wpAny_getItem_list_neg (Q:=fun r s'=>r=w/\EP X pins σ Q r s') pl.isList (by omega) (by rw [List.size_toArray] <;> omega) (by omega) (by rw [hj];simpa using ew) ⟨rfl,fin⟩) hs
theorem ix_tup:IxR X (rIxT X.K):=by
 intro value slice pins s σ H x y v u Q I rx ry h hs
 obtain ⟨p,xs,i,z,rfl,rfl,hq,he,q⟩:=h
 cases rx
 obtain ⟨t,rfl⟩:=ry
 obtain ⟨its,r,pl,hz⟩:=I.tuple hq
 obtain ⟨j,h1,h2,h3,h4,h5⟩:=atI_get he
 obtain ⟨w,ew,rw'⟩:=r.get h2
 have hl:=r.length
 have hn:=line63
 have fin:EP X pins σ Q w s:=⟨z,H,I,rw',q⟩
 exact subscriptTail_builtinR (x:=w) pl.typeIs slot_tuple_getitem.lookup
  (getItem_tuple (j:=j) (Q:=fun r s'=>r=w/\EP X pins σ Q r s') pl (by omega) (by omega) (by rw [List.size_toArray,<-hl];exact h1) (by simpa using ew) ⟨rfl,fin⟩) hs
theorem ix_str:IxR X rIxS:=by
 intro value slice pins s σ H x y v u Q I rx ry h hs
 obtain ⟨z,i,c,rfl,rfl,hz,he,q⟩:=h
 obtain ⟨t,rfl⟩:=rx
 obtain ⟨t',rfl⟩:=ry
 obtain ⟨j,h1,h2,h3,h4,h5⟩:=atI_get he
 have hl:z.cps.toList.length=z.length:=by simp [Str.length]
 rw [hl] at h1 h4 h5
 have hn:=line63
 exact tail_any (typeIs_str s z t) slot_str_getitem.lookup (getItem_str (c:=c) (by
  have e1:decide (i < -(2 ^ 63:Int))=false:=decide_eq_false (by omega)
  have e2:decide (i ≥ 2 ^ 63)=false:=decide_eq_false (by omega)
  rw [e1,e2,Bool.or_false]) (by rw [h1];simpa using h2) ⟨.str ⟨#[c]⟩,H,I.tok _,⟨_,rfl⟩,q⟩) hs
def flatV:V->Bool
 | .non=>true
 | .bl _=>true
 | .int _=>true
 | .str _=>true
 | _=>false
def eqV:V->V->Bool
 | .non,.non=>true
 | .bl a,.bl b=>a == b
 | .bl a,.int b=>(if a then 1 else 0) == b
 | .int a,.bl b=>a == (if b then 1 else 0)
 | .int a,.int b=>a == b
 | .str a,.str b=>a == b
 | _,_=>false
theorem eqAt_V {A:Around} {s:Shared} {y x:V} {u v:Value} (ry:RelV y u) (rx:RelV x v) (fy:flatV y=true) (fx:flatV x=true):SeqAt.EqAt A s u v (eqV y x):=by
 cases y with
 | non=>
  cases ry
  cases x with
  | non=>cases rx;exact SeqAt.EqAt.same _
  | bl b=>cases rx;exact SeqAt.EqAt.none_bool b
  | int b=>obtain ⟨t,rfl⟩:=rx;exact SeqAt.EqAt.none_int b t
  | str b=>obtain ⟨t,rfl⟩:=rx;exact SeqAt.EqAt.none_str b t
  | _=>exact absurd (show false=true from fx) Bool.false_ne_true
 | bl a=>
  cases ry
  cases x with
  | non=>cases rx;exact SeqAt.EqAt.bool_none a
  | bl b=>cases rx;exact SeqAt.EqAt.bool_bool a b
  | int b=>obtain ⟨t,rfl⟩:=rx;exact SeqAt.EqAt.bool_int a b t
  | str b=>obtain ⟨t,rfl⟩:=rx;exact SeqAt.EqAt.bool_str a b t
  | _=>exact absurd (show false=true from fx) Bool.false_ne_true
 | int a=>
  obtain ⟨t',rfl⟩:=ry
  cases x with
  | non=>cases rx;exact SeqAt.EqAt.int_none a t'
  | bl b=>cases rx;exact SeqAt.EqAt.int_bool a t' b
  | int b=>obtain ⟨t,rfl⟩:=rx;exact SeqAt.EqAt.int_int a t' b t
  | str b=>obtain ⟨t,rfl⟩:=rx;exact SeqAt.EqAt.int_str a t' b t
  | _=>exact absurd (show false=true from fx) Bool.false_ne_true
 | str a=>
  obtain ⟨t',rfl⟩:=ry
  cases x with
  | non=>cases rx;exact SeqAt.EqAt.str_none a t'
  | bl b=>cases rx;exact SeqAt.EqAt.str_bool a t' b
  | int b=>obtain ⟨t,rfl⟩:=rx;exact SeqAt.EqAt.str_int a t' b t
  | str b=>obtain ⟨t,rfl⟩:=rx;exact SeqAt.EqAt.str_str a t' b t
  | _=>exact absurd (show false=true from fx) Bool.false_ne_true
 | _=>exact absurd (show false=true from fy) Bool.false_ne_true
def eqU (x:V) (u:Value):Bool:=match u with
 | .none=>eqV .non x
 | .bool b=>eqV (.bl b) x
 | .int i _=>eqV (.int i) x
 | .str z _=>eqV (.str z) x
 | _=>false
theorem eqU_of {x y:V} {u:Value} (r:RelV y u) (f:flatV y=true):eqU x u=eqV y x:=by
 cases y with
 | non=>cases r;rfl
 | bl b=>cases r;rfl
 | int i=>obtain ⟨t,rfl⟩:=r;rfl
 | str z=>obtain ⟨t,rfl⟩:=r;rfl
 | _=>exact absurd (show false=true from f) Bool.false_ne_true
theorem mem_eqAt {A:Around} {s:Shared} {x:V} {v:Value} (rx:RelV x v) (fx:flatV x=true):∀ {xs:List V} {us:List Value},Vals xs us->xs.all flatV=true->∀ u ∈ us,SeqAt.EqAt A s u v (eqU x u)
 | _,_,.nil,_=>fun u hu=>by cases hu
 | y :: xs,u :: us,.cons r t,f=>fun u' hu=>by
  rw [List.all_cons,Bool.and_eq_true] at f
  rcases List.mem_cons.mp hu with rfl | hu
  ·rw [eqU_of r f.1];exact eqAt_V r rx f.1 fx
  ·exact mem_eqAt rx fx t f.2 u' hu
theorem call_len_seq:CallR X (.builtin "len") (fun xs H Q=>∃ p ys,xs=[.ref p]/\(SqL X.K H p ys\/SqT X.K H p ys)/\Q (.int ys.length) H):=by
 intro pins s σ H xs us Q I r h
 obtain ⟨p,ys,rfl,hq,q⟩:=h
 obtain ⟨u,rfl,rx⟩:=vals1 r
 cases rx
 have hn:=line63
 rcases hq with hq | hq
 ·obtain ⟨its,r',pl,hz⟩:=I.list hq
  have hlen:=r'.length
  exact Calls.call_len_list pl.isList (by simp only [List.size_toArray] <;> omega) ⟨.int ys.length,H,I.tok _,⟨s.toks+1,by rw [List.size_toArray,hlen]⟩,q⟩
 ·obtain ⟨its,r',pl,hz⟩:=I.tuple hq
  have hlen:=r'.length
  exact len_tuple pl (by simp only [List.size_toArray] <;> omega) ⟨.int ys.length,H,I.tok _,⟨s.toks+1,by rw [List.size_toArray,hlen]⟩,q⟩
theorem call_len_str:CallR X (.builtin "len") (fun xs H Q=>∃ z,xs=[.str z]/\z.length<=sizeLine/\Q (.int z.length) H):=by
 intro pins s σ H xs us Q I r h
 obtain ⟨z,rfl,hz,q⟩:=h
 obtain ⟨u,rfl,t,rfl⟩:=vals1 r
 have hn:=line63
 exact len_str (by omega) ⟨.int z.length,H,I.tok _,⟨_,rfl⟩,q⟩
theorem call_tuple_of:CallR X (.type "tuple") (fun xs H Q=>∃ p ys,xs=[.ref p]/\((SqL X.K H p ys/\∀ l,H l=none->Q (.ref l) (upd H l (.tup ys)))\/(SqT X.K H p ys/\Q (.ref p) H))):=by
 intro pins s σ H xs us Q I r h
 obtain ⟨p,ys,rfl,h⟩:=h
 obtain ⟨u,rfl,rx⟩:=vals1 r
 cases rx
 rcases h with ⟨hq,q⟩ | ⟨hq,q⟩
 ·obtain ⟨its,r',pl,hz⟩:=I.list hq
  have hlen:=r'.length
  refine call_tuple_list pl.isList (fun h' kp=>?_) (by simp only [List.size_toArray] <;> omega)
  have I1:Inv X pins σ H { s with heap:=h' }:=I.kept (t':=s.toks) kp
  have I2:Inv X pins σ (upd H h'.objs.size (.tup ys)) { s with heap:=h'.push { cls:=.type "tuple",data:=.seq its.toArray } }:=
   I1.laid (t':=s.toks) (fun b o e=>Heap.get?_push_of_some _ e) (Nat.le_refl _) (show ObjOk X.prog X.w _ _ _ (.tup ys) from ⟨hz,its,r',IsTup.new _ _⟩)
  exact ⟨.ref h'.objs.size,_,I2,rfl,q _ (I1.hok.fresh (Nat.le_refl _))⟩
 ·obtain ⟨its,r',pl,hz⟩:=I.tuple hq
  exact call_tuple_same pl ⟨.ref p,H,I,rfl,q⟩
def tyV (K:PySem.W.Frag) (T:String) (x:V) (H:Hp):Prop:=match x with
 | .str _=>T = "str"
 | .int _=>T = "int"
 | .ref p=>(T = "list"/\∃ xs,SqL K H p xs)\/(T = "tuple"/\∃ o,K.lookup p=some o/\o.cls=.type "tuple"/\o.dict=none) ∨
   (T = "dict"/\((∃ kvs,H p=some (.dK kvs))\/∃ kvs,H p=some (.dT kvs)))\/(T = "set"/\∃ S n,H p=some (.set S n))
 | _=>False
theorem tyV_is {pins:List (Addr × Obj)} {σ:St} {H:Hp} {s:Shared} {T:String} {x:V} {v:Value} (I:Inv X pins σ H s) (r:RelV x v) (ty:tyV X.K T x H) :
  s.TypeIs v T/\∀ a,v=.ref a->∃ ob,s.heap.get? a=some ob/\ob.dict=none:=by
 cases x with
 | str z=>
  obtain ⟨t,rfl⟩:=r
  cases (show T = "str" from ty)
  exact ⟨typeIs_str s z t,fun _ e=>nomatch e⟩
 | int i=>
  obtain ⟨t,rfl⟩:=r
  cases (show T = "int" from ty)
  exact ⟨typeIs_int s i t,fun _ e=>nomatch e⟩
 | ref p=>
  cases r
  rcases ty with ⟨rfl,xs,hq⟩ | ⟨rfl,o,hk,hc,hd⟩ | ⟨rfl,hk⟩ | ⟨rfl,S,n,hk⟩
  ·obtain ⟨its,_,pl,_⟩:=I.list hq
   refine ⟨pl.isList.typeIs,fun a e=>?_⟩
   cases e
   obtain ⟨o,n,e,c,hd,_⟩:=pl
   exact ⟨o,e,hd⟩
  ·refine ⟨⟨o,I.kIn p o hk,hc⟩,fun a e=>?_⟩
   cases e
   exact ⟨o,I.kIn _ o hk,hd⟩
  ·have z:∃ o,s.heap.get? p=some o/\o.ExactDict:=by
    rcases hk with ⟨kvs,hk⟩ | ⟨kvs,hk⟩
    ·obtain ⟨_,_,_,_,o,_,_,e,ex,_⟩:=I.hok p _ hk
     exact ⟨o,e,ex⟩
    ·exact False.elim (show ObjOk X.prog X.w H s.heap p (.dT kvs) from I.hok p _ hk)
   obtain ⟨o,e,ex⟩:=z
   refine ⟨⟨o,e,ex.1⟩,fun a e2=>?_⟩
   cases e2
   exact ⟨o,e,ex.2.1⟩
  ·obtain ⟨o,_,_,_,e,ex,_⟩:=I.hok p _ hk
   refine ⟨⟨o,e,ex.1⟩,fun a e2=>?_⟩
   cases e2
   exact ⟨o,e,ex.2.1⟩
 | _=>exact False.elim ty
def tBM (K:PySem.W.Frag) (T:String) (r:V->List V->Hp->VK->Prop) (to:TE) (t:TA):TE:=fun σ H Q=>to σ H fun x H1=>tyV K T x H1/\t σ H1 fun xs H2=>r x xs H2 Q
variable {o e:Expr} {es:List Expr} {to:TE} {t:TA} {name:Str} {apos cpos:Pos} {T id:String} {r:V->List V->Hp->VK->Prop}
theorem pe_bm (pa:PlainAttrs T) (slot:Slot T name id) (hty:typeOf (.builtin id)=pure (.type "method_descriptor")) (hm:MtR X id r) (ho:PE X o to) (ha:PA X (e :: es) t)
  (hbase:attributeBase o name X.env (eval o X.env)=eval o X.env:=by rfl)
  (hfew:((backTo cpos (starEach (e :: es) X.env)).all (fun x=>!x.1) && (backToKw cpos (keywordEach [] X.env)).all (fun x=>x.1.isSome)
   && decide ((e :: es).length+([]:List Keyword).length+(if ([]:List Keyword).isEmpty then 0 else 1) < 30))=true:=by rfl)
  (hline:(apos.endLine == cpos.line)=true:=by rfl) (hs:starEach (e :: es) X.env=(false,eval e X.env) :: starEach es X.env:=by rfl) (hplain:(backTo cpos (starEach es X.env)).any (·.1)=false:=by rfl) :
  PE X (.Call (.Attribute o name apos) (e :: es) [] cpos) (tBM X.K T r to t):=by
 intro pins s σ H Q I h
 refine wpAny_Call_method_late hbase hfew hline rfl (thn (ho pins s σ H _ I h) fun v s1 ⟨x,H1,I1,r1,ty,q1⟩=>?_)
 obtain ⟨h1,h2⟩:=tyV_is I1 r1 ty
 refine ⟨T,id,pa,slot,hty,h1,h2,?_⟩
 have hA:=ha cpos pins s1 σ H1 _ I1 q1
 rw [hs] at hA ⊢
 refine Calls.callWith_builtin (by show (false || (backTo cpos (starEach es X.env)).any (·.1))=false;rw [hplain] <;> rfl) (Calls.evalArgs_plain ?_)
 exact thn hA fun us s2 ⟨vs,H2,I2,r2,q2⟩=>hm pins s2 σ H2 x vs v us Q I2 r1 r2 q2
/- xs.append(e),list.index on a module's tuple .. are MtR facts of 06m -/
end
end L2
namespace L2
open PySem PySem.Spec PyProof.Rows
def MtM (X:Cx) (id:String) (r:V->List V->Hp->VK->Prop):Prop:=
 ∀ (pins:List (Addr × Obj)) (s:Shared) (σ:St) (H:Hp) (x:V) (xs:List V) (v:Value) (us:List Value) (Q:VK),Inv X pins σ H s->RelV x v->Vals xs us->r x xs H Q →
  wpAny (model X.prog X.w) X.A (call (.builtin id) (v :: us)) (EP X pins σ Q) X.xe s
theorem Vals.one:∀ {x:V} {us:List Value},Vals [x] us->∃ u,us=[u]/\RelV x u
 | _,_,.cons r .nil=>⟨_,rfl,r⟩
theorem Vals.two:∀ {x y:V} {us:List Value},Vals [x,y] us->∃ u v,us=[u,v]/\RelV x u/\RelV y v
 | _,_,_,.cons r (.cons q .nil)=>⟨_,_,rfl,r,q⟩
section
variable {X:Cx} {pins:List (Addr × Obj)} {σ:St} {H:Hp} {s:Shared} {l b:Addr} {xs ys zs:List V}
theorem Inv.lset {its its':List Value} {n:Nat} {f:Array Value->Array Value} {t':Nat} (I:Inv X pins σ H s) (hH:H l=some (.lst xs))
  (e:s.heap.get? l=some { cls:=.type "list",data:=.seq its.toArray n }) (hf:f its.toArray=its'.toArray) (hv:Vals ys its') (hz:ys.length<=sizeLine) :
  Inv X pins σ (upd H l (.lst ys)) { s with heap:=s.heap.update l (Obj.mapSeq f),toks:=t' }:=by
 have q:=PySem.IsL.update e f
 rw [hf] at q
 refine I.write (x:=l) (e:=l) (by rw [hH];exact trivial) (.inl rfl) (fun b' u hb hu=>(Heap.get?_update_other s.heap (Obj.mapSeq f) (Ne.symm hb)).trans hu) ⟨_,q⟩ ?_
 exact ⟨hz,its',_,hv,q⟩
theorem Inv.lnew {its:List Value} {t':Nat} (I:Inv X pins σ H s) (hv:Vals ys its) (hz:ys.length<=sizeLine) :
  Inv X pins σ (upd H s.heap.objs.size (.lst ys)) { s with heap:=s.heap.push { cls:=.type "list",data:=.seq its.toArray },toks:=t' }:=
 I.laid (fun _ _ q=>Heap.get?_push_of_some _ q) (Nat.le_refl _) ⟨hz,its,0,hv,Heap.get?_push_size _ rfl⟩
theorem Inv.fresh (I:Inv X pins σ H s):H s.heap.objs.size=none:=I.hok.fresh (Nat.le_refl _)
theorem Inv.lstM (I:Inv X pins σ H s) (hH:H l=some (.lst xs)):xs.length<=sizeLine/\∃ (its:List Value) (n:Nat),Vals xs its/\xs.length=its.length/\s.heap.get? l=some { cls:=.type "list",data:=.seq its.toArray n }:=by
 obtain ⟨z,its,n,r,e⟩:=I.hok l _ hH
 exact ⟨z,its,n,r,r.length,e⟩
theorem notLongL {n:Nat} (h:n<=sizeLine):Builtin.List.listTooLong n=false:=by
 unfold Builtin.List.listTooLong
 exact decide_eq_false (by omega)
end
section
variable {X:Cx}
def rAppend:V->List V->Hp->VK->Prop:=fun x vs H Q=>∃ l xs y,x=.ref l/\vs=[y]/\H l=some (.lst xs)/\xs.length < sizeLine/\Q .non (upd H l (.lst (xs++[y])))
theorem mt_append:MtM X "list.append" rAppend:=by
 intro pins s σ H x vs v us Q I rx rv h
 obtain ⟨l,xs,y,rfl,rfl,hH,hz,q⟩:=h
 cases rx
 obtain ⟨u,rfl,ru⟩:=rv.one
 obtain ⟨z,its,n,r,hl,e⟩:=I.lstM hH
 refine call_meets F.slot_list_append ⟨_,e,rfl⟩ F.entry_list_append (F.args_list_append_2 _ _) (PySem.list_append l its.toArray n u (by rw [List.size_toArray];omega)) ⟨e,?_⟩
 refine ⟨.non,_,I.lset (its':=its++[u]) hH e (by simp) (r.append (.cons ru .nil)) ?_,rfl,q⟩
 rw [List.length_append,List.length_singleton]
 omega
def rExtend:V->List V->Hp->VK->Prop:=fun x vs H Q=>∃ l b xs zs,x=.ref l/\vs=[.ref b]/\H l=some (.lst xs)/\H b=some (.lst zs)/\xs.length+zs.length<=sizeLine/\Q .non (upd H l (.lst (xs++zs)))
theorem mt_extend:MtM X "list.extend" rExtend:=by
 intro pins s σ H x vs v us Q I rx rv h
 obtain ⟨l,b,xs,zs,rfl,rfl,hH,hB,hz,q⟩:=h
 cases rx
 obtain ⟨u,rfl,ru⟩:=rv.one
 cases ru
 obtain ⟨z,its,n,r,hl,e⟩:=I.lstM hH
 obtain ⟨z2,its2,n2,r2,hl2,e2⟩:=I.lstM hB
 have hsz:its.toArray.size+its2.toArray.size<=sizeLine:=by rw [List.size_toArray,List.size_toArray];omega
 have hlong:¬ (!its.toArray.isEmpty && Builtin.List.listTooLong (its.toArray.size+its2.toArray.size))=true:=by
  rw [notLongL hsz,Bool.and_false]
  exact Bool.false_ne_true
 refine call_meets F.slot_list_extend ⟨_,e,rfl⟩ F.entry_list_extend (F.args_list_extend_2 _ _)
  (AutoSeq1.list_extend_list_list_0 l its.toArray n b its2.toArray n2 hlong (by rw [List.size_toArray];omega) (by omega)) ⟨e,e2,?_⟩
 refine ⟨.non,_,I.lset (its':=its++its2) hH e (by simp) (r.append r2) ?_,rfl,q⟩
 rw [List.length_append]
 omega
def rCat:R2:=fun x y H Q=>∃ l b xs zs,x=.ref l/\y=.ref b/\H l=some (.lst xs)/\H b=some (.lst zs)/\xs.length+zs.length<=sizeLine/\∀ p,H p=none->Q (.ref p) (upd H p (.lst (xs++zs)))
theorem op_cat:OpR X (binaryOp .Add) rCat:=by
 intro pins s σ H x y v u Q I rx ry h
 obtain ⟨l,b,xs,zs,rfl,rfl,hH,hB,hz,q⟩:=h
 cases rx
 cases ry
 obtain ⟨z,its,n,r,hl,e⟩:=I.lstM hH
 obtain ⟨z2,its2,n2,r2,hl2,e2⟩:=I.lstM hB
 refine PySem.P.add_list e e2 ?_ (by rw [List.size_toArray,List.size_toArray];omega)
 have ea:its.toArray++its2.toArray=(its++its2).toArray:=by simp
 rw [ea]
 exact ⟨.ref _,_,I.lnew (t':=s.toks) (r.append r2) (by rw [List.length_append];omega),rfl,q _ I.fresh⟩
end
section
variable {prog:Program} {w:World} {A:Around} {E:Value->Shared->Prop} {s:Shared}
set_option maxRecDepth 100000 in
end
section
variable {X:Cx}
end
end L2
namespace Att
open PySem PySem.W PySem.Calls PyProof.Rows
theorem ints_of_wellAll {P:Params} {h:Heap}:∀ (ns:List Int) (vs:List Value),WellAll P h vs (ns.map WData.int)->IntsAre vs ns:=by
 intro ns
 induction ns with
 | nil=>
  intro vs w
  rw [List.map_nil] at w
  cases w
  exact .nil
 | cons n ns ih=>
  intro vs w
  rw [List.map_cons] at w
  cases w with
  | cons a b=>
   cases a
   exact .cons _ _ (ih _ b)
theorem script_of {l:OpenLaw} {n:Nat} (hn:l.most=some n) {P:Params} {h:Heap} {args:List WData} {vals:List Value}
  (hpre:l.row.toRowW.claim.pre args=true) (hwl:WellAll P h vals args) :
  ∃ a vs ns,vals=[Value.ref a]/\args=[WData.list (ns.map WData.int)]/\h.get? a=some { cls:=.type "list",data:=.seq vs.toArray }/\IntsAre vs ns/\ns.length<=n:=by
 have hsh:WShape.hasAll [] args [.list .int]=true:=(pre_splitW hpre).1
 have hc:l.pre.holds [] { args:=args }=true:=(pre_splitW hpre).2
 obtain ⟨d,r,rfl,h1,h2⟩:=hasAllW_cons hsh
 obtain rfl:=hasAllW_nil h2
 obtain ⟨xs,rfl,h3⟩:=hasW_list h1
 obtain ⟨ns,rfl⟩:=items_int h3
 have hlen:ns.length<=n:=by
  unfold OpenLaw.pre at hc
  have h4:(WTm.not (.lt (.lit (.int (n:Int))) (.len (.arg 0)))).holds [] { args:=[.list (ns.map .int)] }=true:=by
   have h4:=(holds_andW hc).1
   rw [hn] at h4
   exact h4
  have h5:=condW_of h4 (w_not (w_lt w_lit (w_len_list (w_arg rfl))))
  rw [List.length_map] at h5
  refine Nat.le_of_not_lt fun q=>?_
  have q':(n:Int) < ((ns.length:Nat):Int):=by omega
  first
   | (rw [decide_eq_true q'] at h5;exact absurd h5 (by decide))
   | (simp at h5;omega)
 cases hwl with
 | cons w1 w2=>
  cases w2
  cases w1 with
  | list ho hall=>exact ⟨_,_,ns,rfl,rfl,ho,ints_of_wellAll ns _ hall,hlen⟩
theorem post_true (l:OpenLaw) (args:List WData):l.row.toRowW.claim.post args (.bool true) args=true:=
 postW_of (r:=l.row.toRowW) (X:=(true == true))
  (show WShape.has [] (.bool true) .bool=true by first | rfl | decide | simp [WShape.has,WShape.arms,WShape.armsAll])
  (show (WTm.eq .res (.lit (.bool true))).value [] { args:=args,res:=some (.bool true),after:=args }=some (.bool (true == true)) from w_eq_bool (w_res rfl) w_lit) rfl
section
variable {prog:Program} {w:World} {A:Around} {E:Value->Shared->Prop} {s:Shared} {K:Frag}
end
end Att
namespace L2
open PySem PySem.Spec PyProof.Rows
theorem vals_ints:∀ {vs:List Value} {ns:List Int},IntsAre vs ns->Vals (ns.map V.int) vs
 | _,_,.nil=>.nil
 | _,_,.cons n t h=>.cons ⟨t,rfl⟩ (vals_ints h)
def Only (H:Hp):Prop:=∀ b,H b=none\/∃ o xs,H b=some (.frz o (.lst xs))
theorem law_call {P:Program} {w:World} {K:PySem.W.Frag} {mg mb:Str->Option Value} {CX:CXT} {k:Nat} {fa a:Addr} {fd:FuncData} {x:Str} {sp:Sp} {s₁:Shared} {vs:List Value} {ns:List Int}
  (KX:K.In s₁.heap) (hns:s₁.heap.Ns mainGlobals mg) (hb:s₁.heap.Ns builtinsNs mb) (hbb:∀ x:Str,x ≠ "__name__"->mb x=bootBuiltins x) (hlim:s₁.heap.NoLimit) (hg:s₁.gens=#[])
  (ha:s₁.heap.get? a=some { cls:=.type "list",data:=.seq vs.toArray }) (hi:IntsAre vs ns) (hl:ns.length<=sizeLine) (hr:Room k callerA)
  (F:∀ base:Heap,K.In base->base.Ns mainGlobals mg->FnOk P w K mg base CX k fa fd [x] sp) (hbind:∀ (s:Shared) (u:Value),BindsTo s fd ⟨[u],[]⟩ [(x,u)])
  (hsp:∀ H:Hp,Only H->SqL K H a (ns.map V.int)->sp [.ref a] H (fun v _=>v=.bl true) fun _ _ _=>False)
  (hCX:∀ H e s',CX [] H s₁ (fun _ _ _=>False) e s'->False) :
  codeAny (model P w) callerA (.call (.ref fa) ⟨[.ref a],[]⟩) (fun r s'=>r=.ok (.ret (.bool true))/\OldK s₁.heap s'.heap/\s'.os=s₁.os/\AllBare s'.gens) s₁:=by
 have rv:=vals_ints hi
 have lenV:=hi.length
 -- from an abstract heap in which nothing but the script may be tracked
 have core:∀ H:Hp,Only H->SqL K H a (ns.map V.int)->HOk P w H s₁.heap->(∀ b,H b ≠ none->b=a)->(H a ≠ none->K.lookup a=none) →
   codeAny (model P w) callerA (.call (.ref fa) ⟨[.ref a],[]⟩) (fun r s'=>r=.ok (.ret (.bool true))/\OldK s₁.heap s'.heap/\s'.os=s₁.os/\AllBare s'.gens) s₁:=by
  intro H hO hS hok hA hK
  have base_of:∀ {b:Addr} {o:Obj},s₁.heap.get? b=some o->H b=none->(hidT s₁.heap H).get? b=some o:=fun e n=>hidT_get e n
  have noA:∀ {b:Addr} {o:Obj} {es:Array DictEntry} {ep:Nat},s₁.heap.get? b=some o->o.data=.dict es ep->H b=none:=fun {b o es ep} e d=>by
   cases q:H b with
   | none=>rfl
   | some u=>
    have e':b=a:=hA b (by rw [q];simp)
    subst e'
    rw [ha] at e;cases e
    have d':Data.seq vs.toArray _=Data.dict es ep:=d
    cases d'
  have nsK:∀ {b:Addr} {m:Str->Option Value},s₁.heap.Ns b m->(hidT s₁.heap H).Ns b m:=fun {b m} ⟨o,es,ep,e,d,r⟩=>⟨o,es,ep,base_of e (noA e d),d,r⟩
  have hKb:K.In (hidT s₁.heap H):=fun b o e=>base_of (KX b o e) (by
   cases q:H b with
   | none=>rfl
   | some u=>
    have e':b=a:=hA b (by rw [q];simp)
    subst e'
    rw [hK (by rw [q];simp)] at e;cases e)
  have hM:Mod K mg (hidT s₁.heap H):=⟨hKb,nsK hns,⟨mb,nsK hb,hbb⟩,let ⟨mc,h1,h2⟩:=hlim;⟨mc,nsK h1,h2⟩⟩
  have e0:Env0 P w K mg (hidT s₁.heap H) callerA [] s₁ H:=⟨rfl,hM,fun b o e=>of_hidT e,Nat.le_of_eq (hidT_size _ _),trivial,fun b hb=>absurd (show b ∈ ([]:List Addr) from hb) (by simp),hok,.of_eq hg⟩
  refine codeAny_mono ((F _ hKb (nsK hns)).run callerA [] s₁ H ⟨[.ref a],[]⟩ [.ref a] [.ref a] _ _ hr e0 (hbind s₁ (.ref a)) (.cons rfl .nil) (hsp H hO hS)) fun r s' h=>?_
  cases r with
  | error e=>exact (hCX H e s' h).elim
  | ok fl=>
   cases fl with
   | next=>exact False.elim h
   | brk=>exact False.elim h
   | cont=>exact False.elim h
   | ret u=>
    obtain ⟨v,H',os,bare,un,hok',r',q⟩:=h
    have q':v=.bl true:=q
    subst q'
    obtain rfl:u=Value.bool true:=r'
    refine ⟨rfl,OldK.of_keep fun b o e=>?_,os,bare⟩
    cases q:H b with
    | none=>exact un.keep b o e q (by intro z;exact absurd (show b ∈ ([]:List Addr) from z) (by simp)) (by simp)
    | some u=>
     rcases hO b with z | ⟨ob,xs,z⟩
     ·rw [q] at z;cases z
     ·have z2:=un.frzs b ob _ z
      obtain ⟨e1,_⟩:=hok b _ z
      obtain ⟨e2,_⟩:=hok' b _ z2
      rw [e] at e1;cases e1
      exact e2
 cases hk:K.lookup a with
 | some o=>
  -- the script is one of the module's own objects
  have e:=KX a o hk
  rw [ha] at e
  cases e
  refine core (fun _=>none) (fun _=>.inl rfl) (.inr ⟨_,vs.toArray,_,hk,rfl,rfl,rfl,by rw [List.size_toArray,lenV];exact hl,by simpa using rv⟩) (fun b u z=>by have z':(none:Option HO)=some u:=z;cases z') (fun b z=>absurd rfl z) fun z=>absurd rfl z
 | none=>
  refine core (fun b=>if b=a then some (.frz { cls:=.type "list",data:=.seq vs.toArray } (.lst (ns.map V.int))) else none) (fun b=>?_) (.inl (.inr ⟨{ cls:=.type "list",data:=.seq vs.toArray },if_pos rfl⟩)) (fun b u z=>?_) (fun b z=>?_) fun _=>hk
  ·by_cases hb:b=a
   ·exact .inr ⟨_,_,if_pos hb⟩
   ·exact .inl (if_neg hb)
  ·by_cases hb:b=a
   ·have z':=(if_pos hb).symm.trans z
    cases z'
    subst hb
    exact ⟨ha,by rw [List.length_map];exact hl,vs,_,rv,ha⟩
   ·have z':=(if_neg hb).symm.trans z
    cases z'
  ·by_cases hb:b=a
   ·exact hb
   ·exact absurd (if_neg hb) z
end L2
namespace L2
open PySem PySem.Spec PyProof.Rows
end L2
/- THE LAST THEOREM (shape;LID,My.* are yours):
   My.Adr: a structure of the addresses that your layer names (classes,functions);My.Txt K t: a structure (Prop) of the equations over K;
   My.txt_mk:{K} {implicit addresses ..} (e1:nsIn K mainGlobals "law" = some (some (.ref f))) (e2:K.lookup f=some ⟨oc,od,.func (fnOf "law" "law" params body scope dV kV doc pm an cdv ct),sl⟩) (e3:codeIn K cdv "law" = true) ..:∃ t,My.Txt K t
set_option maxRecDepth 100000 in
set_option maxHeartbeats 0 in
theorem PySem.Challenge.cw_LID_holds : PySem.Challenge.rw_LID.Holds := by
 w_on;o_law;k_head;(case hw=>w_witness2)
 k_fill
 refine L2.walk_of (l:=PySem.Challenge.rw_LID) (n:=63) (k:=40) (x := "script") (CX:=fun w=>..) (sp:=fun _=>My.sp_law) rfl (by decide) rfl ⟨rfl,by decide,by decide⟩ (fun w h Y=>PySem.W.kIn_of Y) ?F ?S ?C
 case F=>
  intro w mg fa h KX G hmg
  have T:∃ t,My.Txt (L2.KOf KX) t:=by
   dsimp only [L2.KOf]                          -- K must stand as «<heap const> w.params» for k_is
   refine' My.txt_mk ?e1 ?e2 ?e3 ..
   (case e1=>PySem.W.k_is)                    -- in the order: a name -> its address -> its object -> its parts
   (case e2=>PySem.W.k_is)
   ..
  obtain ⟨t,T⟩:=T
  have e0:=hmg.symm.trans (PySem.W.mg_of KX G T.law)
  cases e0                                       -- fa is the law's own address
  exact ⟨_,fun s u=>.of_eq rfl,fun base kb nb=>My.law_fn T kb nb⟩     -- if «.of_eq rfl» comes too early: refine' ⟨_,?b,fun base kb nb=>My.law_fn T kb nb⟩;exact fun s u=>.of_eq rfl
 case S=>exact fun w H a ns hl hO hS=>..
 case C=>exact ..
(the tactic k_is has no namespace: write k_is) -/
namespace L2
open PySem PySem.Spec PyProof.Rows
abbrev CX0:CXT:=fun _ _ _ _ _ _=>False
abbrev E0:XK:=fun _ _ _=>False
theorem pass0 {X:Cx}:Passes CX0 X E0:=fun _ _ _ _ _ _ _ h=>h.elim
structure Fun (K:PySem.W.Frag) (x qual:Str) (st:Stmt) (f:Addr) (fd:FuncData):Prop where
 ex:∃ (oc:Value) (od:Option Addr) (kV doc pm:Value) (an:Option Addr) (cdv ct:Value) (osl:Array (Option Value)),
  fd=PySem.W.fnOf x qual (defArgs st) (defBody st) (defScope st) .none kV doc pm an cdv ct/\K.lookup f=some ⟨oc,od,.func fd,osl⟩/\PySem.W.codeIn K cdv qual=true
 kp:PySem.W.keepIn K (.ref f)=true
section
variable {P:Program} {w:World} {K:PySem.W.Frag} {mg:Str->Option Value} {base:Heap}
theorem Fun.ok {x qual:Str} {st:Stmt} {f:Addr} {fd:FuncData} {N ps:List Str} {k:Nat} {sp:Sp} (F:Fun K x qual st f fd) (S:FnScope N ps (defScope st)) (len:∀ vs H Q E,sp vs H Q E->vs.length=ps.length)
  (hbody:∀ (cdv:Value) (A:Around) (outer:List Env) (s:Shared) (H:Hp) (vs:List V) (Q:VK) (E:XK),Room k (A.deeper (envOfC qual (defScope st) s.heap.objs.size f cdv))->sp vs H Q E →
   ∃ t,PSs (cxOf CX0 P w K mg base N qual (defScope st) f cdv A outer s H E).nox (defBody st) t/\t { nx:=fun _ H'=>Q .non H',rt:=Q } (start N vs) H):FnOk P w K mg base CX0 (k+1) f fd ps sp:=by
 obtain ⟨oc,od,kV,doc,pm,an,cdv,ct,osl,rfl,lk,hcd⟩:=F.ex
 refine fn_of lk hcd S len fun A outer s H vs Q E hr hsp=>?_
 obtain ⟨t,h,q⟩:=hbody cdv A outer s H vs Q E hr hsp
 exact ⟨t,h.nox,q⟩
theorem Fun.binds {x qual:Str} {st:Stmt} {f:Addr} {fd:FuncData} {ps:List Str} (F:Fun K x qual st f fd)
  (h:∀ (kV doc pm:Value) (an:Option Addr) (cdv ct:Value) (us:List Value),us.length=ps.length->bindArgs (PySem.W.fnOf x qual (defArgs st) (defBody st) (defScope st) .none kV doc pm an cdv ct) ⟨us,[]⟩=pure (ps.zip us)):Binds K fd ps []:=by
 obtain ⟨oc,od,kV,doc,pm,an,cdv,ct,osl,rfl,lk,hcd⟩:=F.ex
 exact .all (h kV doc pm an cdv ct)
theorem fun_mk {x qual:Str} {st:Stmt} {f:Addr} {oc:Value} {od an:Option Addr} {osl:Array (Option Value)} {kV doc pm cdv ct:Value} (l:K.lookup f=some ⟨oc,od,.func (PySem.W.fnOf x qual (defArgs st) (defBody st) (defScope st) .none kV doc pm an cdv ct),osl⟩)
  (c:PySem.W.codeIn K cdv qual=true) (k:PySem.W.keepIn K (.ref f)=true):Fun K x qual st f (PySem.W.fnOf x qual (defArgs st) (defBody st) (defScope st) .none kV doc pm an cdv ct):=⟨⟨oc,od,kV,doc,pm,an,cdv,ct,osl,rfl,l,c⟩,k⟩
end
section
variable {X:Cx}
theorem pv (i:Nat) {x:Str} {pos:Pos} (hN:X.N[i]?=some x:=by rfl) (hv:Vis X.env.scope x:=by first | exact Or.inl rfl | exact Or.inr (Or.inl rfl) | exact Or.inr (Or.inr rfl)) (hd:(x == ("__debug__" : Str))=false:=by decide)
  (hcd:(x == ("__classdict__" : Str))=false:=by decide):PE X (.Name x pos) (tVar i):=pe_var hN hv hd hcd
end
theorem iteF {A B:Prop} (h:B):if false=true then A else B:=by
 rw [if_neg Bool.false_ne_true]
 exact h
theorem iteT {A B:Prop} (h:A):if true=true then A else B:=by
 rw [if_pos rfl]
 exact h
theorem ite2 {c A B:Prop} [Decidable c] (h1:c->A) (h2:¬ c->B):if c then A else B:=by
 by_cases h:c
 ·rw [if_pos h]
  exact h1 h
 ·rw [if_neg h]
  exact h2 h
theorem iteNS {c A B:Prop} [Decidable c] (hc:c) (h:B):if (!decide c)=true then A else B:=by
 rw [decide_eq_true hc]
 exact iteF h
def Same (H H':Hp):Prop:=∀ b o,H b=some o->H' b=some o
theorem Same.refl (H:Hp):Same H H:=fun _ _ h=>h
theorem Same.trans {H H1 H2:Hp} (a:Same H H1) (b:Same H1 H2):Same H H2:=fun c o h=>b c o (a c o h)
theorem Same.free {H H':Hp} (e:Same H H') {l:Addr} (h:H' l=Option.none):H l=Option.none:=by
 cases q:H l with
 | none=>rfl
 | some o=>
  rw [e l o q] at h
  cases h
theorem Same.seq {K:PySem.W.Frag} {H H':Hp} {a:Addr} {xs:List V} (e:Same H H') (h:SqL K H a xs):SqL K H' a xs:=by
 rcases h with (h | ⟨o,h⟩) | h
 ·exact .inl (.inl (e _ _ h))
 ·exact .inl (.inr ⟨o,e _ _ h⟩)
 ·exact .inr h
end L2
set_option maxHeartbeats 4000000
namespace L3
open PySem PySem.Spec PyProof.Rows L2
theorem same_upd {H:Hp} {p:Addr} {o:HO} (h:H p=none):Same H (upd H p o):=fun b u e=>by
 rw [upd_ne (ne_of_none e h)];exact e
theorem same_to {H H':Hp} {p:Addr} {o:HO} (s:Same H H') (h:H p=none):Same H (upd H' p o):=fun b u e=>by
 rw [upd_ne (ne_of_none e h)];exact s b u e
def newO:HO->Prop
 | .lst _=>True
 | .tup _=>True
 | _=>False
def Rst (H H':Hp) (P:Hp->Prop):Prop:=∃ Hr,Same H Hr/\Same Hr H'/\(∀ a o,Hr a=some o->H a=some o\/newO o)/\P Hr
theorem Rst.same {H H':Hp} {P:Hp->Prop} (s:Same H H') (p:P H):Rst H H' P:=⟨H,Same.refl H,s,fun _ _ e=>.inl e,p⟩
theorem Rst.one {H H':Hp} {P:Hp->Prop} {p:Addr} {o:HO} (s:Same H H') (n:H p=none) (e:H' p=some o) (no:newO o) (q:P (upd H p o)):Rst H H' P:=
 ⟨upd H p o,same_upd n,fun b u z=>by
  by_cases hb:b=p
  ·subst hb;rw [upd_same] at z;cases z;exact e
  ·rw [upd_ne hb] at z;exact s b u z,fun b u z=>by
  by_cases hb:b=p
  ·subst hb;rw [upd_same] at z;cases z;exact .inr no
  ·rw [upd_ne hb] at z;exact .inl z,q⟩
theorem Rst.more {H H1 H':Hp} {P:Hp->Prop} (s:Same H H1) (n:∀ a o,H1 a=some o->H a=some o\/newO o) (r:Rst H1 H' P):Rst H H' P:=by
 obtain ⟨Hr,s1,s2,hn,q⟩:=r
 exact ⟨Hr,s.trans s1,s2,fun a o e=>by
  rcases hn a o e with z | z
  ·exact n a o z
  ·exact .inr z,q⟩
section
variable {P:Program} {w:World} {H Hr H':Hp} {h h':Heap}
theorem objOk_rst {a:Addr} {o:HO} (s1:Same H Hr) (x0:ObjOk P w H h a o) (x:ObjOk P w H' h' a o):ObjOk P w Hr h' a o:=by
 induction o with
 | ins C dx fs=>exact ⟨s1 _ _ x0.1,x.2⟩
 | frz ob u ih=>exact ⟨x.1,ih x0.2 x.2⟩
 | lst xs=>exact x
 | tup xs=>exact x
 | dK kvs=>exact x
 | dT kvs=>exact x
 | set S n=>exact x
 | own y=>exact x
 | xd fs=>exact x
 | rng lo hi=>exact x
 | tbl ps=>exact x
 | met f y=>exact x
 | ext φ=>exact x
theorem hok_rst (e0:HOk P w H h) (k:HOk P w H' h') (s1:Same H Hr) (s2:Same Hr H') (hn:∀ a o,Hr a=some o->H a=some o\/newO o):HOk P w Hr h':=fun a o e=>by
 have x:=k a o (s2 a o e)
 rcases hn a o e with z | z
 ·exact objOk_rst s1 (e0 a o z) x
 ·cases o with
  | lst xs=>exact x
  | tup xs=>exact x
  | _=>exact False.elim z
theorem un_rst {fs ex:List Addr} (u:Un fs ex H H' h h') (s1:Same H Hr) (s2:Same Hr H'):Un fs ex H Hr h h' where
 keep:=u.keep
 slot:=u.slot
 free:=fun b o e n hx=>s2.free (u.free b o e n hx)
 there:=u.there
 tups:=fun b xs e=>s1 b _ e
 frzs:=fun b o x e=>s1 b _ e
 tbls:=fun b ps e=>⟨#[],by rw [s1 b _ e];simp⟩
end
section
variable {P:Program} {w:World} {K:PySem.W.Frag} {mg:Str->Option Value} {base:Heap} {CX:CXT} {k:Nat} {f:Addr} {fd:FuncData} {ps:List Str} {sp:Sp}
def SpR (sp:Sp):Sp:=fun vs H Q2 E=>∃ Q:VK,(∀ v H',Rst H H' (Q v)->Q2 v H')/\sp vs H Q E
theorem FnOk.rst (F:FnOk P w K mg base CX k f fd ps (SpR sp)):FnOk P w K mg base CX k f fd ps sp:=
 ⟨fun vs H Q E h=>F.len vs H (fun v H'=>Rst H H' (Q v)) E ⟨Q,fun _ _ z=>z,h⟩,fun A outer s H args us vs Q E hr he hb hv hs=>
  codeAny_mono (F.run A outer s H args us vs (fun v H'=>Rst H H' (Q v)) E hr he hb hv ⟨Q,fun _ _ z=>z,hs⟩) fun r s' hq=>by
   cases r with
   | error e=>exact hq
   | ok fl=>
    cases fl with
    | ret u=>
     obtain ⟨v,H',e1,e2,e3,e4,e5,Hr,s1,s2,hn,q⟩:=hq
     exact ⟨v,Hr,e1,e2,un_rst e3 s1 s2,hok_rst he.hok e4 s1 s2 hn,e5,q⟩
    | next=>exact False.elim hq
    | brk=>exact False.elim hq
    | cont=>exact False.elim hq⟩
theorem Fun.okR {x qual:Str} {st:Stmt} {f:Addr} {fd:FuncData} {N ps:List Str} {k:Nat} {sp:Sp} (F:Fun K x qual st f fd) (S:FnScope N ps (defScope st)) (len:∀ vs H Q E,sp vs H Q E->vs.length=ps.length)
  (hbody:∀ (cdv:Value) (A:Around) (outer:List Env) (s:Shared) (H:Hp) (vs:List V) (Q Q2:VK) (E:XK),Room k (A.deeper (envOfC qual (defScope st) s.heap.objs.size f cdv))->sp vs H Q E->(∀ v H',Rst H H' (Q v)->Q2 v H') →
   ∃ t,PSs (cxOf CX0 P w K mg base N qual (defScope st) f cdv A outer s H E).nox (defBody st) t/\t { nx:=fun _ H'=>Q2 .non H',rt:=Q2 } (start N vs) H):FnOk P w K mg base CX0 (k+1) f fd ps sp:=
 FnOk.rst (F.ok S (fun vs H Q2 E ⟨Q,_,h⟩=>len vs H Q E h) fun cdv A outer s H vs Q2 E hr ⟨Q,hq,h⟩=>hbody cdv A outer s H vs Q Q2 E hr h hq)
end
end L3
namespace L3
open PySem PySem.Spec PyProof.Rows L2
abbrev NE:Value->Shared->Prop:=fun _ _=>False
def PTs (X:Cx) (cs:List Expr) (t:TT):Prop:=
 ∀ (pins:List (Addr × Obj)) (s:Shared) (σ:L2.St) (H:Hp) (Q:Bool->Hp->Prop),Inv X pins σ H s->t σ H Q →
  wpAny (model X.prog X.w) X.A (forIn cs true fun c r=>if r=true then do let ok <-isTrue c X.env (eval c X.env);pure (ForInStep.yield ok) else pure (ForInStep.yield r)) (TP X pins σ Q) X.xe s
def tYes:TT:=fun _ H Q=>Q true H
theorem pts_nil {X:Cx}:PTs X [] tYes:=fun _ _ _ H _ I h=>wpAny_tests_nil ⟨H,I,h⟩
theorem pts_one {X:Cx} {c:Expr} {t:TT} (h:PT X c t):PTs X [c] t:=fun pins s σ H Q I q=>wpAny_tests_one (h pins s σ H Q I q)
section
variable {prog:Program} {w:World} {A:Around} {R:Result->Shared->Prop} {s:Shared}
theorem compLoop_any {elt target iter:Expr} {ifs:List Expr} {scope:Scope} {pos:Pos} {it acc:Value} {env:Env} (I:Nat->Shared->Prop)
  (turn:∀ n s,I n s->wpAny (model prog w) A (pyNext it) (fun r s₁=>match r with
   | none=>R (.ok .next) s₁
   | some v=>wpAny (model prog w) A (letOwnedTupleGo target it v) (fun _ s₀=>wpAny (model prog w) A (assign target env v) (fun _ s₂=>
     wpAny (model prog w) A (forIn ifs true fun c r=>if r=true then do let ok <-isTrue c env (eval c env);pure (ForInStep.yield ok) else pure (ForInStep.yield r)) (fun ok s₃=>
      if ok=true then wpAny (model prog w) A (eval elt env) (fun x s₄=>
       wpAny (model prog w) A (call (.builtin "list.append") [acc,x]) (fun _ s₅=>∃ m,m < n/\I m s₅) NE s₄) NE s₃
      else ∃ m,m < n/\I m s₃) NE s₂) NE s₀) NE s₁) NE s)
  (n:Nat) (h:I n s) :
  codeAny (model prog w) A (.compLoop (.ListComp elt [⟨target,iter,ifs,0⟩] scope pos) 0 it acc env) R s:=by
 refine codeAny_loop rfl I (fun n s hI=>?_) n h
 show wpAny _ A ((compTurn (.ListComp elt [⟨target,iter,ifs,0⟩] scope pos) 0 it acc env).onRaise (fun x=>do noteFrame x env;theTreesLotGoes x)) _ _ s
 refine wpAny_noted (wpAny_mono (E:=NE) ?_ (fun _ _ q=>q) fun _ _ f=>f.elim)
 rw [compTurn_list]
 refine wpAny_bind (wpAny_standAt (wpAny_bind (wpAny_mono (turn n s hI) (fun r s₁ h₁=>?_) fun _ _ h'=>h')))
 cases r with
 | none=>exact wpAny_pure h₁
 | some v=>
  refine wpAny_bind (wpAny_mono h₁ (fun _ s₀ h₀=>?_) fun _ _ h'=>h')
  refine wpAny_bind (wpAny_mono h₀ (fun _ s₂ h₂=>wpAny_bind (wpAny_mono h₂ (fun ok s₃ h₃=>?_) fun _ _ h'=>h')) fun _ _ h'=>h')
  cases ok with
  | false=>exact wpAny_pure ⟨rfl,h₃⟩
  | true=>
   exact wpAny_bind (wpAny_bind (wpAny_mono h₃ (fun x s₄ h₄=>wpAny_bind (wpAny_mono h₄ (fun _ s₅ h₅=>wpAny_pure (wpAny_pure ⟨rfl,h₅⟩)) fun _ _ h'=>h')) fun _ _ h'=>h'))
end
theorem closure_go {env:Env}:∀ (names:List (Str × NameKind)) (cs:List (Str × Addr)),(∀ y ∈ names,y.2=.free->∃ c,env.cells.lookup y.1=some c)->(∀ x c,cs.lookup x=some c->env.cells.lookup x=some c) →
  ∃ cl,(forIn names cs (fun (y:Str × NameKind) r=>if (y.2 == .free)=true then do let a <-cellOf env y.1;pure (ForInStep.yield ((y.1,a) :: r)) else pure (ForInStep.yield r)):Sem (List (Str × Addr)))=pure cl ∧
   (∀ x c,cl.lookup x=some c->env.cells.lookup x=some c)/\(∀ x,(∃ c,cs.lookup x=some c)->∃ c,cl.lookup x=some c)/\(∀ y ∈ names,y.2=.free->∃ c,cl.lookup y.1=some c)
 | [],cs,_,h=>⟨cs,rfl,h,fun _ z=>z,fun _ z=>nomatch z⟩
 | y :: r,cs,hn,h=>by
  by_cases hy:y.2=.free
  ·obtain ⟨c,hc⟩:=hn y List.mem_cons_self hy
   have hc':cellOf env y.1=pure c:=by unfold cellOf;rw [hc]
   have h2:∀ x d,((y.1,c) :: cs).lookup x=some d->env.cells.lookup x=some d:=fun x d e=>by
    rw [List.lookup_cons] at e
    by_cases hx:x=y.1
    ·subst hx
     rw [show (y.1 == y.1)=true from beq_self_eq_true _] at e
     cases e
     exact hc
    ·rw [show (x == y.1)=false from beq_eq_false_iff_ne.mpr hx] at e
     exact h x d e
   obtain ⟨cl,e1,e2,e3,e4⟩:=closure_go r ((y.1,c) :: cs) (fun z hz=>hn z (List.mem_cons_of_mem _ hz)) h2
   refine ⟨cl,?_,e2,fun x hx=>e3 x ?_,fun z hz hf=>?_⟩
   ·rw [List.forIn_cons,hy,if_pos (by decide),hc']
    exact e1
   ·obtain ⟨d,hd⟩:=hx
    rw [List.lookup_cons]
    by_cases hx:x=y.1
    ·exact ⟨c,by rw [show (x == y.1)=true from beq_iff_eq.mpr hx]⟩
    ·exact ⟨d,by rw [show (x == y.1)=false from beq_eq_false_iff_ne.mpr hx];exact hd⟩
   ·rcases List.mem_cons.mp hz with rfl | hz
    ·exact e3 z.1 ⟨c,by rw [List.lookup_cons,show (z.1 == z.1)=true from beq_self_eq_true _]⟩
    ·exact e4 z hz hf
  ·obtain ⟨cl,e1,e2,e3,e4⟩:=closure_go r cs (fun z hz=>hn z (List.mem_cons_of_mem _ hz)) h
   refine ⟨cl,?_,e2,e3,fun z hz hf=>?_⟩
   ·rw [List.forIn_cons,if_neg (by intro q;exact hy (beq_iff_eq.mp q))]
    exact e1
   ·rcases List.mem_cons.mp hz with rfl | hz
    ·exact absurd hf hy
    ·exact e4 z hz hf
theorem closure_ok {scope:Scope} {env:Env} (hn:∀ y ∈ scope.names,y.2=.free->∃ c,env.cells.lookup y.1=some c) :
  ∃ cl,closureFor scope env=pure cl/\(∀ x c,cl.lookup x=some c->env.cells.lookup x=some c)/\(∀ y ∈ scope.names,y.2=.free->∃ c,cl.lookup y.1=some c):=by
 obtain ⟨cl,e1,e2,_,e4⟩:=closure_go (env:=env) scope.names [] hn (fun x c e=>by rw [List.lookup_nil] at e;cases e)
 refine ⟨cl,?_,e2,e4⟩
 unfold closureFor
 exact (congrArg (· >>= pure) e1)
theorem relabel_back {env:Env} {x:Str}:∀ {names:List (Str × NameKind)},(∀ y ∈ names,y.2 ≠ .cell) →
  ((names.map fun (n,k)=>if (k == NameKind.free && env.scope.kind == .function && env.kindOf n == some .cell) then (n,NameKind.cell) else (n,k)).lookup x=some .cell ∨
   (names.map fun (n,k)=>if (k == NameKind.free && env.scope.kind == .function && env.kindOf n == some .cell) then (n,NameKind.cell) else (n,k)).lookup x=some .free)->names.lookup x=some .free
 | [],_,h=>by rcases h with h | h <;> (rw [List.map_nil,List.lookup_nil] at h;cases h)
 | (n,k) :: r,hc,h=>by
  have ih:=relabel_back (env:=env) (x:=x) (names:=r) fun y hy=>hc y (List.mem_cons_of_mem _ hy)
  have hk:k ≠ .cell:=hc (n,k) List.mem_cons_self
  rw [List.map_cons] at h
  rw [List.lookup_cons]
  cases hx:x == n with
  | true=>
   dsimp only
   by_cases hq:(k == NameKind.free && env.scope.kind == .function && env.kindOf n == some .cell)=true
   ·rw [Bool.and_eq_true,Bool.and_eq_true] at hq
    rw [beq_iff_eq.mp hq.1.1]
   ·dsimp only at h
    rw [if_neg hq] at h
    rw [List.lookup_cons,hx] at h
    dsimp only at h
    rcases h with h | h
    ·exact absurd (Option.some.inj h) hk
    ·exact h
  | false=>
   dsimp only
   refine ih ?_
   dsimp only at h
   by_cases hq:(k == NameKind.free && env.scope.kind == .function && env.kindOf n == some .cell)=true
   ·rw [if_pos hq,List.lookup_cons,hx] at h
    exact h
   ·rw [if_neg hq,List.lookup_cons,hx] at h
    exact h
theorem mem_lookup {x:Str} {k:NameKind} {l:List (Str × NameKind)} (h:l.lookup x=some k):(x,k) ∈ l:=PySem.mem_of_lookup h
def comp (X:Cx) (Nc:List Str) (scope:Scope) (cl:List (Str × Addr)) (C:Addr) (s:Shared) (H:Hp) (fp:List Addr):Cx:=
 { X with N:=Nc,s₀:=s,H₀:=H,env:=compEnvC scope cl C X.env,outer:=X.stack,stack:=X.stack,ex:=fp,fn:=fun _=>false,pn:=[],xe:=fun _ _=>False }
def MapOk (X:Cx) (scope:Scope):List Str->List (Option Nat)->Prop
 | [],[]=>True
 | _ :: N,none :: m=>MapOk X scope N m
 | x :: N,some i :: m=>(X.N[i]?=some x/\(X.env.scope.names.lookup x=some .cell\/X.env.scope.names.lookup x=some .free)/\scope.names.lookup x=some .free)/\MapOk X scope N m
 | _,_=>False
theorem MapOk.len {X:Cx} {scope:Scope}:∀ {N:List Str} {m:List (Option Nat)},MapOk X scope N m->m.length=N.length
 | [],[],_=>rfl
 | _ :: N,none :: m,h=>congrArg (·+1) (MapOk.len (N:=N) (m:=m) h)
 | _ :: N,some _ :: m,h=>congrArg (·+1) (MapOk.len (N:=N) (m:=m) h.2)
 | [],_ :: _,h=>h.elim
 | _ :: _,[],h=>h.elim
theorem MapOk.at {X:Cx} {scope:Scope} {x:Str} {i:Nat}:∀ {N:List Str} {m:List (Option Nat)} {j:Nat},MapOk X scope N m->m[j]?=some (some i)->N[j]?=some x →
  X.N[i]?=some x/\(X.env.scope.names.lookup x=some .cell\/X.env.scope.names.lookup x=some .free)/\scope.names.lookup x=some .free
 | [],[],j,_,h,_=>by simp at h
 | _ :: N,none :: m,0,_,h,_=>by simp at h
 | _ :: N,none :: m,j+1,k,h,e=>MapOk.at (N:=N) (m:=m) (j:=j) k (by simpa using h) (by simpa using e)
 | y :: N,some i' :: m,0,k,h,e=>by
  simp at h e
  subst h;subst e
  exact k.1
 | _ :: N,some _ :: m,j+1,k,h,e=>MapOk.at (N:=N) (m:=m) (j:=j) k.2 (by simpa using h) (by simpa using e)
 | [],_ :: _,_,h,_,_=>h.elim
 | _ :: _,[],_,h,_,_=>h.elim
def mapS (m:List (Option Nat)) (σ:L2.St):L2.St:=m.map fun o=>o.bind fun i=>(σ[i]?).bind id
structure CompOk (X:Cx) (scope:Scope) (Nc:List Str) (mp:List (Option Nat)):Prop where
 kind:scope.kind=.function
 noc:∀ y ∈ scope.names,y.2 ≠ .cell
 loc:∀ y ∈ scope.names,y.2=.local->scope.names.lookup y.1=some .local
 fre:∀ y ∈ scope.names,y.2=.free->X.env.kindOf y.1=some .cell\/X.env.kindOf y.1=some .free
 map:MapOk X scope Nc mp
section
variable {X:Cx} {pins:List (Addr × Obj)} {σ:L2.St} {H:Hp} {s:Shared} {scope:Scope} {Nc:List Str} {mp:List (Option Nat)} {cl:List (Str × Addr)} {C:Addr} {fp:List Addr}
theorem comp_ok (I:Inv X pins σ H s) (S:CompOk X scope Nc mp) (h1:∀ x c,cl.lookup x=some c->X.env.cells.lookup x=some c) (h2:∀ y ∈ scope.names,y.2=.free->∃ c,cl.lookup y.1=some c)
  (hC:s.heap.objs.size<=C) (hf:∀ b ∈ fp,FpOk X pins H b) (ho:∀ b ∈ fp,b < s.heap.objs.size):(comp X Nc scope cl C s H fp).Ok where
 mod:=I.ok.mod
 kind:=S.kind
 glob:=I.ok.glob
 blt:=I.ok.blt
 above:=hC
 inj:=fun x y c e e'=>I.ok.inj x y c (h1 x c e) (h1 y c e')
 has:=fun x hx=>by
  have q:scope.names.lookup x=some .free:=relabel_back (env:=X.env) S.noc hx
  exact h2 (x,.free) (mem_lookup q) rfl
 cab:=fun x c hx=>absurd (show false=true from hx) Bool.false_ne_true
 hd:=I.ok.hd
 frames:=I.ok.frames
 stk:=.inl rfl
 exf:=fun b hb=>⟨fun z=>absurd (Nat.lt_of_lt_of_le (ho b hb) hC) (by rw [z];exact Nat.lt_irrefl _),fun x c e=>(hf b hb).2.2.2.2.1 x c (h1 x c e)⟩
 bs:=I.bs
 bsz:=Nat.le_trans I.ok.bsz I.sz
 noex:=fun b o e hb=>by
  rcases (hf b hb).2.2.2.1 with z | z
  ·exact I.ok.noex b o e z
  ·exact absurd (Nat.lt_of_lt_of_le (Heap.lt_size e) (Nat.le_trans I.ok.bsz z)) (Nat.lt_irrefl _)
 exfs:=fun b hb z=>by
  rcases List.mem_cons.mp (I.stkSub b z) with e | e
  ·exact (hf b hb).2.1 e
  ·exact (hf b hb).2.2.1 e
 funs:=I.stack
 frf:=I.stkFree
theorem comp_inv {h':Heap} {tk:Nat} {D:Addr} {oD:Obj} (I:Inv X pins σ H s) (S:CompOk X scope Nc mp) (h1:∀ x c,cl.lookup x=some c->X.env.cells.lookup x=some c) (h2:∀ y ∈ scope.names,y.2=.free->∃ c,cl.lookup y.1=some c)
  (hC:s.heap.objs.size<=C) (hf:∀ b ∈ fp,FpOk X pins H b) (ho:∀ b ∈ fp,b < s.heap.objs.size) (kp:∀ b o,s.heap.get? b=some o->h'.get? b=some o) {m:Str->Option Value} (hn:h'.Ns C m)
  (hD:s.heap.objs.size<=D) (hDC:D ≠ C) (eD:h'.get? D=some oD) (dD:∀ v,oD.data ≠ .cell v):Inv (comp X Nc scope cl C s H fp) [(D,oD)] (mapS mp σ) H { s with heap:=h',toks:=tk } where
 ok:=comp_ok I S h1 h2 hC hf ho
 os:=rfl
 bare:=I.bare
 base:=Un.kept kp
 loc:=by
  refine ⟨m,hn,fun j x v e1 e2 _=>?_⟩
  have hj:(mapS mp σ)[j]?=(mp[j]?).map fun o=>o.bind fun i=>(σ[i]?).bind id:=by unfold mapS;rw [List.getElem?_map]
  rw [hj] at e2
  cases e3:mp[j]? with
  | none=>rw [e3] at e2;cases e2
  | some o=>
   rw [e3] at e2
   cases o with
   | none=>cases e2
   | some i=>
    obtain ⟨k1,k2,k3⟩:=S.map.at e3 e1
    have e4:(σ[i]?).bind id=some v:=Option.some.inj e2
    have e5:σ[i]?=some (some v):=by
     cases q:σ[i]? with
     | none=>rw [q] at e4;cases e4
     | some z=>rw [q] at e4;exact congrArg some e4
    obtain ⟨m0,_,hl⟩:=I.loc
    obtain ⟨u,r,l⟩:=hl i x v k1 e5 (.inr k2)
    refine ⟨u,r,.inr ⟨?_,?_⟩⟩
    ·show (relabel scope X.env).names.lookup x=some .cell\/(relabel scope X.env).names.lookup x=some .free
     have go:∀ {names:List (Str × NameKind)},names.lookup x=some .free →
       ((names.map fun (n,k)=>if (k == NameKind.free && X.env.scope.kind == .function && X.env.kindOf n == some .cell) then (n,NameKind.cell) else (n,k)).lookup x=some .cell ∨
        (names.map fun (n,k)=>if (k == NameKind.free && X.env.scope.kind == .function && X.env.kindOf n == some .cell) then (n,NameKind.cell) else (n,k)).lookup x=some .free):=by
      intro names
      induction names with
      | nil=>intro q;rw [List.lookup_nil] at q;cases q
      | cons y r ih=>
       obtain ⟨n,k⟩:=y
       intro q
       rw [List.lookup_cons] at q
       rw [List.map_cons]
       dsimp only
       cases hx:x == n with
       | true=>
        rw [hx] at q
        cases q
        by_cases hq:(NameKind.free == NameKind.free && X.env.scope.kind == .function && X.env.kindOf n == some .cell)=true
        ·rw [if_pos hq,List.lookup_cons,hx];exact .inl rfl
        ·rw [if_neg hq,List.lookup_cons,hx];exact .inr rfl
       | false=>
        rw [hx] at q
        by_cases hq:(k == NameKind.free && X.env.scope.kind == .function && X.env.kindOf n == some .cell)=true
        ·rw [if_pos hq,List.lookup_cons,hx];exact ih q
        ·rw [if_neg hq,List.lookup_cons,hx];exact ih q
     exact go k3
    ·obtain ⟨c,hc⟩:=h2 (x,.free) (mem_lookup k3) rfl
     refine ⟨c,hc,?_⟩
     rcases l with ⟨lk,_⟩ | ⟨_,c',hc',oc,hoc,hd⟩
     ·have lk':X.env.scope.names.lookup x=some .local:=lk
      rcases k2 with k2 | k2 <;> (rw [lk'] at k2;cases k2)
     ·rw [h1 x c hc] at hc';cases hc'
      exact ⟨oc,kp _ _ hoc,hd⟩
 cell:=fun x c e=>by
  obtain ⟨v,o,ho',hd⟩:=I.cell x c (h1 x c e)
  exact ⟨v,o,kp _ _ ho',hd⟩
 free:=I.hok.fresh hC
 freeC:=fun x c e=>I.freeC x c (h1 x c e)
 pin:=fun p hp=>by
  have e:p=(D,oD):=by
   have hp':p ∈ ([]:List (Addr × Obj))++[(D,oD)]:=hp
   simpa using hp'
  subst e
  refine ⟨eD,I.hok.fresh hD,hDC,fun z=>?_,dD⟩
  rcases List.mem_cons.mp (I.stkSub D z) with e | e
  ·exact absurd (Nat.lt_of_lt_of_le I.lt hD) (by rw [e];exact Nat.lt_irrefl _)
  ·exact I.nofs hD e
 hok:=I.hok.kept kp
 len:=by unfold mapS;rw [List.length_map];exact S.map.len
theorem comp_out {σ':L2.St} {H':Hp} {s':Shared} {h':Heap} {D:Addr} {acc:List V} {its:List Value} {n:Nat} (I:Inv X pins σ H s) (hC:s.heap.objs.size<=C) (hD:s.heap.objs.size<=D) (hDC:D ≠ C) (hf:∀ b ∈ fp,FpOk X pins H b)
  (J:Inv (comp X Nc scope cl C s H fp) [(D,{ cls:=.type "list",data:=.seq its.toArray n })] σ' H' s') (hs:Heap.SameBut C s'.heap h') (hv:Vals acc its) (hz:acc.length<=sizeLine) :
  Inv X pins σ (upd H' D (.lst acc)) { s' with heap:=h' }/\H' D=none:=by
 obtain ⟨eD,nD,_,_,_⟩:=J.pin (D,{ cls:=.type "list",data:=.seq its.toArray n }) (List.mem_append_right _ List.mem_cons_self)
 have nD':H' D=none:=nD
 have u:Un (frs X.stack) fp H H' s.heap s'.heap:=J.base
 have neC:∀ b o,s.heap.get? b=some o->b ≠ C:=fun b o e=>Nat.ne_of_lt (Nat.lt_of_lt_of_le (Heap.lt_size e) hC)
 have neD:∀ b o,s.heap.get? b=some o->b ≠ D:=fun b o e=>Nat.ne_of_lt (Nat.lt_of_lt_of_le (Heap.lt_size e) hD)
 refine ⟨?_,nD'⟩
 refine I.call' (ch:=fp) (s':={ s' with heap:=h' }) J.os ⟨fun b o e nb hb hx=>?_,fun b o e nb hb hx=>?_,fun b o e nb hx=>?_,fun b o e hx=>?_,fun b xs e=>?_,fun b o xs e=>?_,fun b ps e=>?_⟩ (fun b o e=>?_) J.bare fun b hb=>⟨(hf b hb).2.2.2.1,(hf b hb).2.1,(hf b hb).2.2.2.2.1,(hf b hb).2.2.2.2.2⟩
 ·exact (hs.2 b (neC b o e)).trans (u.keep b o e nb hb hx)
 ·obtain ⟨sl,q⟩:=u.slot b o e nb hb hx
  exact ⟨sl,(hs.2 b (neC b o e)).trans q⟩
 ·rw [upd_ne (neD b o e)];exact u.free b o e nb hx
 ·obtain ⟨o',q⟩:=u.there b o e hx
  exact ⟨o',(hs.2 b (neC b o e)).trans q⟩
 ·have q:=u.tups b xs e
  rw [upd_ne (ne_of_none q nD')];exact q
 ·have q:=u.frzs b o xs e
  rw [upd_ne (ne_of_none q nD')];exact q
 ·obtain ⟨more,q⟩:=u.tbls b ps e
  exact ⟨more,by rw [upd_ne (ne_of_none q nD')];exact q⟩
 ·have freeC':H' C=none:=J.free
  by_cases hb:b=D
  ·subst hb
   rw [upd_same] at e;cases e
   exact ⟨hz,its,n,hv,(hs.2 _ hDC).trans eD⟩
  ·rw [upd_ne hb] at e
   refine (J.hok b o e).stay (fun c v hc q=>(hs.2 c ?_).trans q) (fun c q=>by rw [upd_ne (ne_of_none q nD')];exact q) fun c xs q=>by rw [upd_ne (ne_of_none q nD')];exact q
   rcases hc with z | z
   ·rw [z];exact ne_of_none e freeC'
   ·exact ne_of_none z freeC'
end
def wComp (J:It) (g:TG) (tt:TT) (te:TE) (Q:VK) (σ:L2.St) (H:Hp):Prop:=
 ∃ W:Nat->Nat->L2.St->List V->Hp->Prop,(∃ m,W 0 m σ [] H)/\∀ i m σ acc H,W i m σ acc H →
  (J.stop i H/\acc.length<=sizeLine/\∀ D,H D=none->Q (.ref D) (upd H D (.lst acc))) ∨
  (J.go i H/\∀ x H',J.yld i H x H'->g x σ H' fun σ2 H2=>tt σ2 H2 fun b H3=>if b=true then te σ2 H3 fun v H4=>acc.length < sizeLine/\∃ m',m' < m/\W (i+1) m' σ2 (acc++[v]) H4 else ∃ m',m' < m/\W (i+1) m' σ2 acc H3)
def tComp (mp:List (Option Nat)) (wi:TI) (g:TG) (tt:TT) (te:TE):TE:=fun σ H Q=>wi σ H fun J H1=>wComp J g tt te Q (mapS mp σ) H1
section
variable {X:Cx} {scope:Scope} {Nc:List Str} {mp:List (Option Nat)} {tg iter elt:Expr} {ifs:List Expr} {pos:Pos} {wi:TI} {g:TG} {tt:TT} {te:TE}
theorem comp_block {pins:List (Addr × Obj)} {σ:L2.St} {H:Hp} {s2:Shared} {it:Addr} {fp:List Addr} {tn:Nat->Heap->Prop} {J:It} {cl:List (Str × Addr)} {RR:Value->Addr->Result->Shared->Prop} {Q:VK}
  (hc:X.calm=true) (S:CompOk X scope Nc mp)
  (hb:∀ cl C s H fp,PG (comp X Nc scope cl C s H fp) tg g/\PTs (comp X Nc scope cl C s H fp) ifs tt/\PE (comp X Nc scope cl C s H fp) elt te)
  (h1:∀ x c,cl.lookup x=some c->X.env.cells.lookup x=some c) (h2:∀ y ∈ scope.names,y.2=.free->∃ c,cl.lookup y.1=some c)
  (I:Inv X pins σ H s2) (T:Turn X.prog X.w X.K tg J fp it tn) (st:tn 0 s2.heap) (hf:∀ b ∈ fp,FpOk X pins H b) (hw:wComp J g tt te Q (mapS mp σ) H)
  (hR:∀ D C s' H',s2.heap.objs.size<=C->s2.heap.objs.size<=D->D ≠ C->(∃ m,s'.heap.Ns C m)->(∀ h',Heap.SameBut C s'.heap h'->Inv X pins σ H' { s' with heap:=h' })->H' C=none->Q (.ref D) H'->RR (.ref D) C (.ok .next) s') :
  wpAny (model X.prog X.w) X.A (newList []) (fun acc s₃=>wpAny (model X.prog X.w) X.A (newFunctionEnv scope X.env.globals cl [] X.env.qual none .none (some X.env)) (fun cenv s₄=>
   codeAny (model X.prog X.w) X.A (.compStart (.ListComp elt [⟨tg,iter,ifs,0⟩] scope pos) 0 (.ref it) acc { cenv with scope:=relabel scope X.env }) (RR acc cenv.locals) s₄) X.xe s₃) X.xe s2:=by
 obtain ⟨W,⟨m0,w0⟩,turn⟩:=hw
 refine wpAny_newObj_type (wpAny_newFunctionEnv S.noc (by intro y hy;simp at hy) (fun h₁ hns₁ hsb₁=>?_) S.kind)
 dsimp only at hns₁ hsb₁ ⊢
 generalize hH2:s2.heap.push { cls:=.type "list",dict:=none,data:=.seq ([]:List Value).toArray }=H2 at hns₁ hsb₁ ⊢
 have hC:H2.objs.size=s2.heap.objs.size+1:=by rw [<-hH2,Heap.size_push]
 have hDC:s2.heap.objs.size ≠ H2.objs.size:=by rw [hC];exact Nat.ne_of_lt (Nat.lt_succ_self _)
 have hCle:s2.heap.objs.size<=H2.objs.size:=by rw [hC];exact Nat.le_succ _
 have below:∀ b,b < s2.heap.objs.size->b ≠ H2.objs.size:=fun b hb=>by rw [hC];exact Nat.ne_of_lt (Nat.lt_succ_of_lt hb)
 have old:∀ b o,s2.heap.get? b=some o->h₁.get? b=some o:=fun b o e=>hsb₁.extBut b o (below b (Heap.lt_size e)) (Heap.get?_push_of_some _ (hH2 ▸ Heap.get?_push_of_some _ e))
 have eD:h₁.get? s2.heap.objs.size=some { cls:=.type "list",data:=.seq ([]:List Value).toArray 0 }:=hsb₁.extBut _ _ hDC (Heap.get?_push_of_some _ (hH2 ▸ Heap.get?_push_size _ rfl))
 have ho:∀ b ∈ fp,b < s2.heap.objs.size:=fun b hb=>by
  obtain ⟨o,e,_⟩:=T.obj 0 _ st b hb
  exact Heap.lt_size e
 generalize hYd:comp X Nc scope cl H2.objs.size s2 H fp=Y
 have bodies:=hb cl H2.objs.size s2 H fp
 rw [hYd] at bodies
 obtain ⟨hg,htt,hte⟩:=bodies
 have I0:∀ tk,Inv Y [(s2.heap.objs.size,{ cls:=.type "list",data:=.seq ([]:List Value).toArray 0 })] (mapS mp σ) H { s2 with heap:=h₁,toks:=tk }:=fun tk=>by
  rw [<-hYd]
  exact comp_inv I S h1 h2 hCle hf ho old hns₁ (Nat.le_refl _) hDC eD fun v z=>by cases z
 have hYp:Y.prog=X.prog:=by rw [<-hYd];rfl
 have hYw:Y.w=X.w:=by rw [<-hYd];rfl
 have hYK:Y.K=X.K:=by rw [<-hYd];rfl
 have hYA:Y.A=X.A:=by rw [<-hYd];rfl
 have hYc:Y.calm=true:=by rw [<-hYd];exact hc
 have hYx:Y.xe=fun _ _=>False:=by rw [<-hYd];rfl
 have hYe:Y.env=compEnvC scope cl H2.objs.size X.env:=by rw [<-hYd];rfl
 have hYs:Y.s₀=s2:=by rw [<-hYd];rfl
 have hYex:Y.ex=fp:=by rw [<-hYd];rfl
 have hYpn:Y.pn=[]:=by rw [<-hYd];rfl
 have hYfs:Y.fs=frs X.stack:=by rw [<-hYd];rfl
 -- the iterator's objects,in the block
 have fpY:∀ {o:Obj} {H':Hp},(∀ b ∈ fp,H' b=none)->∀ b ∈ fp,FpOk Y [(s2.heap.objs.size,o)] H' b:=fun {o H'} hn b hb=>by
  refine ⟨hn b hb,?_,?_,.inl (by rw [hYex];exact hb),fun x c e=>?_,fun p hp=>?_⟩
  ·rw [hYe];exact below b (ho b hb)
  ·rw [hYfs]
   intro z
   rcases List.mem_cons.mp (I.stkSub b z) with e | e
   ·exact (hf b hb).2.1 e
   ·exact (hf b hb).2.2.1 e
  ·rw [hYe] at e
   exact (hf b hb).2.2.2.2.1 x c (h1 x c e)
  ·rw [hYpn] at hp
   have e:p=(s2.heap.objs.size,o):=by simpa using hp
   subst e
   exact Nat.ne_of_gt (ho b hb)
 have loop:∀ s₃:Shared,s₃={ s2 with heap:=h₁,toks:=s2.toks+([]:List (Str × Value)).length } →
   codeAny (model X.prog X.w) X.A (.compLoop (.ListComp elt [⟨tg,iter,ifs,0⟩] scope pos) 0 (.ref it) (.ref s2.heap.objs.size) (compEnvC scope cl H2.objs.size X.env))
    (RR (.ref s2.heap.objs.size) H2.objs.size) s₃:=by
  rintro s₃ rfl
  refine compLoop_any (fun n s'=>∃ i σ' H' acc its k,Inv Y [(s2.heap.objs.size,{ cls:=.type "list",data:=.seq its.toArray k })] σ' H' s'/\tn i s'.heap/\(∀ b ∈ fp,H' b=none)/\Vals acc its/\acc.length<=sizeLine/\W i n σ' acc H') ?_ m0
   ⟨0,mapS mp σ,H,[],[],0,I0 _,T.keep 0 _ _ st fun b _ o e=>old b o e,fun b hb=>(hf b hb).1,.nil,Nat.zero_le _,w0⟩
  rintro n s3 ⟨i,σ3,H3,acc,its,k,I3,st3,fr3,hv,hz,w3⟩
  rcases turn i n σ3 acc H3 w3 with ⟨stop,hzz,qn⟩ | ⟨go,step⟩
  ·have hd:=T.done Y hYp hYw hYK hYc i _ s3 σ3 H3 NE I3 (fpY fr3) st3 stop
   rw [hYA] at hd
   refine thn hd fun r s4 ⟨hr,I4⟩=>?_
   subst hr
   have I4':=I4
   rw [<-hYd] at I4'
   have nC:H3 H2.objs.size=none:=by
    have z:=I4.free
    rw [hYe] at z
    exact z
   obtain ⟨_,nD⟩:=comp_out I hCle (Nat.le_refl _) hDC hf I4' (Heap.SameBut.refl _ s4.heap) hv hzz
   refine hR _ _ s4 _ hCle (Nat.le_refl _) hDC ?_ (fun h' hs'=>(comp_out I hCle (Nat.le_refl _) hDC hf I4' hs' hv hzz).1) ?_ (qn _ nD)
   ·obtain ⟨m',hn',_⟩:=I4.loc
    rw [hYe] at hn'
    exact ⟨m',hn'⟩
   ·rw [upd_ne (Ne.symm hDC)];exact nC
  ·have hi:=T.item Y hYp hYw hYK hYc i _ s3 σ3 H3 NE I3 (fpY fr3) st3 go
   rw [hYA] at hi
   refine thn hi fun r s4 ⟨u,hr,h4⟩=>?_
   subst hr
   refine thn h4 fun _ s5 ⟨x,H5,I5,r5,y5,st5,fr5⟩=>?_
   have I5':=I5.pinned (fpY fr5) (T.obj _ _ st5)
   have ha:=hg _ s5 σ3 H5 x u _ I5' r5 (step x H5 y5)
   rw [hYp,hYw,hYA,hYe,hYx] at ha
   refine thn ha fun _ s6 ⟨σ6,H6,I6,q6⟩=>?_
   have ht:=htt _ s6 σ6 H6 _ I6 q6
   rw [hYp,hYw,hYA,hYe,hYx] at ht
   refine thn ht fun ok s7 ⟨H7,I7,q7⟩=>?_
   cases ok with
   | false=>
    have q7':∃ m',m' < n/\W (i+1) m' σ6 acc H7:=q7
    obtain ⟨m',hm,w7⟩:=q7'
    rw [if_neg Bool.false_ne_true]
    refine ⟨m',hm,i+1,σ6,H7,acc,its,k,I7.unpinned,T.keep _ _ _ st5 fun b hb o e=>(I7.pin (b,o) (List.mem_append_right _ (List.mem_append_right _ (mem_pinsAt hb e)))).1,fun b hb=>?_,hv,hz,w7⟩
    obtain ⟨o,e,d⟩:=T.obj _ _ st5 b hb
    exact (I7.pin (b,o) (List.mem_append_right _ (List.mem_append_right _ (mem_pinsAt hb e)))).2.1
   | true=>
    rw [if_pos rfl]
    have he:=hte _ s7 σ6 H7 _ I7 q7
    rw [hYp,hYw,hYA,hYe,hYx] at he
    refine thn he fun x4 s8 ⟨v,H8,I8,r8,hlt,m',hm,w8⟩=>?_
    have st8:tn (i+1) s8.heap:=T.keep _ _ _ st5 fun b hb o e=>(I8.pin (b,o) (List.mem_append_right _ (List.mem_append_right _ (mem_pinsAt hb e)))).1
    have fr8:∀ b ∈ fp,H8 b=none:=fun b hb=>by
     obtain ⟨o,e,d⟩:=T.obj _ _ st5 b hb
     exact (I8.pin (b,o) (List.mem_append_right _ (List.mem_append_right _ (mem_pinsAt hb e)))).2.1
    have I8':=I8.unpinned
    obtain ⟨e8,n8,ne8,nf8,_⟩:=I8'.pin (s2.heap.objs.size,{ cls:=.type "list",data:=.seq its.toArray k }) (List.mem_append_right _ List.mem_cons_self)
    refine wpAny_list_append_plain (items:=its.toArray) ⟨k,e8⟩ (fun h9 hl9 hs9=>?_) (by rw [List.size_toArray,<-hv.length];exact hz)
    obtain ⟨k9,e9⟩:=hl9
    have ep:its.toArray.push x4=(its++[x4]).toArray:=by simp
    rw [ep] at e9
    -- the list has turned
    have I9:Inv Y [] σ6 H8 { s8 with heap:=h9 }:=by
     refine (I8'.pins_of (pins':=[]) fun p hp=>nomatch hp).turned (t':=s8.toks) (it:=s2.heap.objs.size) (fun b o hb e=>(hs9.2 b hb).trans e) n8 ne8 (.inr (by rw [hYs];exact Nat.le_refl _)) (fun x c e z=>?_) fun p hp=>?_
     ·rw [hYe] at e
      obtain ⟨v',o',ho',_⟩:=I.cell x c (h1 x c e)
      exact absurd (Heap.lt_size ho') (by rw [z];exact Nat.lt_irrefl _)
     ·rw [hYpn] at hp
      exact absurd hp (by simp)
    refine ⟨m',hm,i+1,σ6,H8,acc++[v],its++[x4],k9,I9.pins_of fun p hp=>?_,?_,fr8,hv.append (.cons r8 .nil),?_,w8⟩
    ·have e:p=(s2.heap.objs.size,{ cls:=.type "list",data:=.seq (its++[x4]).toArray k9 }):=by simpa using hp
     subst e
     exact ⟨e9,n8,ne8,nf8,fun v z=>by cases z⟩
    ·exact T.keep _ _ _ st8 fun b hb o e=>(hs9.2 b (Nat.ne_of_lt (ho b hb))).trans e
    ·rw [List.length_append,List.length_singleton];omega
 have hself:=T.self X.A 0 { s2 with heap:=h₁,toks:=s2.toks+([]:List (Str × Value)).length } (fun it' s'=>codeAny (model X.prog X.w) X.A (.compLoop (.ListComp elt [⟨tg,iter,ifs,0⟩] scope pos) 0 it' (.ref s2.heap.objs.size) (compEnvC scope cl H2.objs.size X.env))
    (RR (.ref s2.heap.objs.size) H2.objs.size) s') (notedBy (model X.prog X.w) X.A (compEnvC scope cl H2.objs.size X.env) fun x s'=>RR (.ref s2.heap.objs.size) H2.objs.size (.error x) s') (T.keep 0 _ _ st fun b _ o e=>old b o e) (loop _ rfl)
 exact codeAny_compStart_list (loop _ rfl) hself
theorem clos_of (S:CompOk X scope Nc mp) {pins:List (Addr × Obj)} {σ:L2.St} {H:Hp} {s:Shared} (I:Inv X pins σ H s):∃ cl,closureFor scope X.env=pure cl/\(∀ x c,cl.lookup x=some c->X.env.cells.lookup x=some c)/\(∀ y ∈ scope.names,y.2=.free->∃ c,cl.lookup y.1=some c):=
 closure_ok fun y hy hf=>I.ok.has y.1 (S.fre y hy hf)
theorem pe_comp (hc:X.calm=true) (S:CompOk X scope Nc mp) (hi:PI X tg iter wi)
  (hb:∀ cl C s H fp,PG (comp X Nc scope cl C s H fp) tg g/\PTs (comp X Nc scope cl C s H fp) ifs tt/\PE (comp X Nc scope cl C s H fp) elt te)
  (hs:∀ x,foldedSetIterable iter X.env x=pure x:=by intro _;rfl):PE X (.ListComp elt [⟨tg,iter,ifs,0⟩] scope pos) (tComp mp wi g tt te):=by
 intro pins s σ H Q I h
 obtain ⟨cl,hcl,h1,h2⟩:=clos_of S I
 rw [eval_ListComp]
 refine wpAny_comprehension_free (use:=none) rfl hs hcl S.kind S.loc (thn (hi pins s σ H _ I h) fun v s1 hv=>thn hv fun itv s2 hq=>?_)
 obtain ⟨it,fp,tn,J,H2,e,I2,T,st2,f2,hw⟩:=hq
 subst e
 refine comp_block (RR:=fun acc C=>compPost (model X.prog X.w) X.A X.xe none (EP X pins σ Q) acc C) (Q:=Q) hc S hb h1 h2 I2 T st2 f2 hw fun D C s' H' hC hD hDC hm hI hn hq=>?_
 obtain ⟨m,hm⟩:=hm
 exact ⟨m,hm,fun h' hs'=>⟨.ref D,H',hI h' hs',rfl,hq⟩⟩
theorem ps_setC {i:Nat} {x:Str} {pos' spos:Pos} (hc:X.calm=true) (hN:X.N.Nodup) (hiN:X.N[i]?=some x) (hx:X.env.scope.names.lookup x=some .local) (S:CompOk X scope Nc mp) (hi:PI X tg iter wi)
  (hb:∀ cl C s H fp,PG (comp X Nc scope cl C s H fp) tg g/\PTs (comp X Nc scope cl C s H fp) ifs tt/\PE (comp X Nc scope cl C s H fp) elt te)
  (hsw:swapsWith (.ListComp elt [⟨tg,iter,ifs,0⟩] scope pos) (some (.Name x pos')) spos.line X.env=pure true:=by rfl)
  (hs:∀ x,foldedSetIterable iter X.env x=pure x:=by intro _;rfl):PS X (.Assign [.Name x pos'] (.ListComp elt [⟨tg,iter,ifs,0⟩] scope pos) spos) (tAsg (tComp mp wi g tt te) (gName i)):=by
 intro pins s σ H D I h
 obtain ⟨cl,hcl,h1,h2⟩:=clos_of S I
 rw [exec_Assign_Name_used _ _ _ _ hsw]
 refine wpAny_bind (wpAny_standAt (wpAny_bind ?_))
 show wpAny _ X.A (do let _ <-comprehension (.ListComp elt [⟨tg,iter,ifs,0⟩] scope pos) scope X.env _ (newList []) false (eval iter X.env) (some (assign (.Name x pos') X.env))) _ _ s
 refine wpAny_bind (wpAny_mono (wpAny_comprehension_free (use:=some (assign (.Name x pos') X.env)) (Q:=fun _ s'=>SP X pins D .next s') rfl hs hcl S.kind S.loc (thn (hi pins s σ H _ I h) fun v s1 hv=>thn hv fun itv s2 hq=>?_)) (fun _ s' hq=>wpAny_pure (wpAny_pure hq)) fun _ _ e=>e)
 obtain ⟨it,fp,tn,J,H2,e,I2,T,st2,f2,hw⟩:=hq
 subst e
 refine comp_block (RR:=fun acc C=>compPost (model X.prog X.w) X.A X.xe (some (assign (.Name x pos') X.env)) (fun _ s'=>SP X pins D .next s') acc C) (Q:=fun v H1=>D.nx (σ.set i (some v)) H1) hc S hb h1 h2 I2 T st2 f2 hw fun A C s' H' hC hD hDC hm hI hn hq=>?_
 obtain ⟨m,hm⟩:=hm
 show wpAny _ X.A (assign (.Name x pos') X.env (.ref A)) _ _ s'
 have I0:Inv X pins σ H' s':=hI s'.heap (Heap.SameBut.refl ..)
 have hLC:X.env.locals ≠ C:=Nat.ne_of_lt (Nat.lt_of_lt_of_le I2.lt hC)
 have hcC:∀ y c,X.env.cells.lookup y=some c->c ≠ C:=fun y c e z=>by
  obtain ⟨v,o,ho,_⟩:=I2.cell y c e
  exact absurd (Nat.lt_of_lt_of_le (Heap.lt_size ho) hC) (by rw [z];exact Nat.lt_irrefl _)
 refine wpAny_assign_Name (store_ok2 I0 hN hiN (.inl hx) (show RelV (.ref A) (.ref A) from rfl) (fun s6 I6 hch=>?_) (.inr hx))
 obtain ⟨a,hs6,ha⟩:=hch
 have hCa:C ≠ a:=by
  rcases ha with z | z
  ·rw [z];exact Ne.symm hLC
  ·exact Ne.symm (hcC x a z)
 refine ⟨m,hm.sameBut hs6 hCa,fun h' hs'=>?_⟩
 have I7:Inv X pins (σ.set i (some (.ref A))) H' { s6 with heap:=h' }:=I6.turned (t':=s6.toks) (it:=C) (fun b o hb e=>(hs'.2 b hb).trans e) hn (Ne.symm hLC) (.inr (Nat.le_trans I2.sz hC)) hcC fun p hp z=>by
  exact absurd (Nat.lt_of_lt_of_le (Heap.lt_size (I2.pin p hp).1) hC) (by rw [z];exact Nat.lt_irrefl _)
 exact ⟨_,H',I7,hq⟩
end
end L3
namespace L3
open PySem PySem.Spec PyProof.Rows L2
theorem bounds_gen (lo hi:Option Int) (n:Nat):sliceBounds lo hi none n=(((HT.sIx n 0 lo:Nat):Int),((HT.sIx n n hi:Nat):Int),1):=by
 have clip:∀ (v:Int),max 0 (min (if v < 0 then v+(n:Int) else v) (n:Int))=(((if v < 0 then (v+(n:Int)).toNat else min v.toNat n):Nat):Int):=fun v=>by
  by_cases hv:v < 0
  ·rw [if_pos hv,if_pos hv];omega
  ·rw [if_neg hv,if_neg hv];omega
 unfold sliceBounds
 refine Prod.ext ?_ (Prod.ext ?_ rfl)
 ·cases lo with
  | none=>rfl
  | some v=>exact clip v
 ·cases hi with
  | none=>rfl
  | some v=>exact clip v
theorem slicePick_cut (its:List Value) (lo hi:Option Int):slicePick its.toArray lo hi none=((its.drop (HT.sIx its.length 0 lo)).take (HT.sIx its.length its.length hi - HT.sIx its.length 0 lo)).toArray:=by
 unfold slicePick
 rw [bounds_gen,List.size_toArray]
 dsimp only
 rw [sliceRange_one,pick_run]
section
variable {X:Cx}
def rSlLs (K:PySem.W.Frag):V->Option Int->Option Int->Hp->VK->Prop:=fun x lo hi H Q=>∃ a xs,x=.ref a/\SqL K H a xs/\∀ p,H p=none->Q (.ref p) (upd H p (.lst (cutV xs lo hi)))
theorem sl_lst:SlR X (rSlLs X.K):=by
 intro pins s σ H x v vl vu lo hi sl Q I rx hs pl pu h
 obtain ⟨a,xs,rfl,hx,q⟩:=h
 cases rx
 obtain ⟨its,r,hp,hz⟩:=I.list hx
 refine ⟨"list",_,list_getitem_lookup,hp.isList.typeIs,?_⟩
 refine wpAny_getItem_list_slice hp.isList hs pl pu .none (by simp) ?_ (by rw [List.size_toArray,<-r.length];exact hz)
 rw [slicePick_cut,<-r.length]
 exact ⟨.ref _,_,I.lnew (t':=s.toks) ((r.drop _).take _) (Nat.le_trans (cutV_length xs lo hi) hz),rfl,q _ I.fresh⟩
theorem all_range (bs:List Bool):(List.range bs.length).all (fun i=>bs.getD i false)=bs.all id:=by
 rw [Bool.eq_iff_iff,List.all_eq_true,List.all_eq_true]
 constructor
 ·intro h b hb
  obtain ⟨i,hi,e⟩:=List.mem_iff_getElem.mp hb
  have:=h i (List.mem_range.mpr hi)
  rw [List.getD_eq_getElem?_getD,List.getElem?_eq_getElem hi] at this
  rw [<-e];exact this
 ·intro h i hi
  have hi':=List.mem_range.mp hi
  rw [List.getD_eq_getElem?_getD,List.getElem?_eq_getElem hi']
  exact h _ (List.getElem_mem hi')
theorem call_all (hc:X.calm=true):CallR X (.builtin "all") (fun xs H Q=>∃ (p:Addr) (bs:List Bool),xs=[.ref p]/\SqL X.K H p (bs.map V.bl)/\Q (.bl (bs.all id)) H):=by
 intro pins s σ H xs us Q I r h
 obtain ⟨p,bs,rfl,hq,q⟩:=h
 obtain ⟨u,rfl,ru⟩:=r.one
 cases ru
 obtain ⟨its,rv,hp,hz⟩:=I.list hq
 have hlt:p < s.heap.objs.size:=by obtain ⟨_,e,_⟩:=hp.isList;exact Heap.lt_size e
 refine call_all_walk (wpAny_pyIter_list hp.isList ?_)
 refine ⟨s.heap.objs.size,[s.heap.objs.size,p],[s.heap.objs.size],its.toArray.size,_,_,fun i=>bs.getD i false,rfl,Walks.list (A:=X.A.in1) (I.ok.hd hc) _ _ (Nat.ne_of_lt hlt) its.toArray,⟨⟨_,Heap.get?_push_size _ rfl,rfl,rfl⟩,hp.isList.push _⟩,?_,?_⟩
 ·intro i v s' Q' E' hv hQ'
  have hv':its[i]?=some v:=by simpa using hv
  have hi:i < (bs.map V.bl).length:=by
   rw [rv.length];exact (List.getElem?_eq_some_iff.mp hv').1
  have hib:i < bs.length:=by simpa using hi
  obtain ⟨u,hu,ru⟩:=rv.get (i:=i) (x:=V.bl bs[i]) (by rw [List.getElem?_map,List.getElem?_eq_getElem hib];rfl)
  rw [hv'] at hu;cases hu
  cases ru
  have e:bs.getD i false=bs[i]:=by rw [List.getD_eq_getElem?_getD,List.getElem?_eq_getElem hib];rfl
  dsimp only at hQ'
  rw [e] at hQ'
  exact wpAny_truthy_bool hQ'
 ·intro h' tk hk
  have el:its.toArray.size=bs.length:=by rw [List.size_toArray,<-rv.length,List.length_map]
  rw [el,all_range]
  exact ⟨.bl _,H,I.kept fun b o e=>hk b o (fun z=>absurd (Heap.lt_size e) (by rw [List.mem_singleton.mp z];exact Nat.lt_irrefl _)) (Heap.get?_push_of_some _ e),rfl,q⟩
theorem call_isi:CallR X (.builtin "isinstance") (fun xs H Q=>∃ x n t b,xs=[x,.ty n]/\TyOf X.K H x t/\PySem.W.kitOne X.K t (.type n)=some b/\Q (.bl b) H):=by
 intro pins s σ H xs us Q I r h
 obtain ⟨x,n,t,b,rfl,ty,e,q⟩:=h
 obtain ⟨u,u2,rfl,r1,r2⟩:=r.two
 cases r2
 exact isinst_ok I r1 ty e fun tk=>⟨.bl b,H,I.tok _,rfl,q⟩
end
end L3
namespace L3
open PySem PySem.Spec PyProof.Rows L2
def mapChk (sc:Scope) (N:List Str) (own:Scope):List Str->List (Option Nat)->Bool
 | [],[]=>true
 | _ :: r,none :: m=>mapChk sc N own r m
 | x :: r,some i :: m=>(N[i]? == some x && (sc.names.lookup x == some .cell || sc.names.lookup x == some .free) && own.names.lookup x == some .free) && mapChk sc N own r m
 | _,_=>false
def compChk (sc:Scope) (N:List Str) (own:Scope) (Nc:List Str) (mp:List (Option Nat)):Bool:=
 (own.kind == .function) && (own.names.all fun y=>y.2 != .cell) && (own.names.all fun y=>y.2 != .local || own.names.lookup y.1 == some .local) &&
 (own.names.all fun y=>y.2 != .free || (sc.names.lookup y.1 == some .cell || sc.names.lookup y.1 == some .free)) && mapChk sc N own Nc mp
theorem mapChk_ok {X:Cx} {own:Scope}:∀ {Nc:List Str} {mp:List (Option Nat)},mapChk X.env.scope X.N own Nc mp=true->MapOk X own Nc mp
 | [],[],_=>trivial
 | _ :: r,none :: m,h=>mapChk_ok (Nc:=r) (mp:=m) h
 | x :: r,some i :: m,h=>by
  unfold mapChk at h
  simp only [Bool.and_eq_true,Bool.or_eq_true,beq_iff_eq] at h
  exact ⟨⟨h.1.1.1,h.1.1.2,h.1.2⟩,mapChk_ok h.2⟩
 | [],_ :: _,h=>absurd (show false=true from h) Bool.false_ne_true
 | _ :: _,[],h=>absurd (show false=true from h) Bool.false_ne_true
theorem CompOk.of {X:Cx} {own:Scope} {Nc:List Str} {mp:List (Option Nat)} (h:compChk X.env.scope X.N own Nc mp=true):CompOk X own Nc mp:=by
 unfold compChk at h
 simp only [Bool.and_eq_true,List.all_eq_true,Bool.or_eq_true,beq_iff_eq,bne_iff_ne] at h
 obtain ⟨⟨⟨⟨h1,h2⟩,h3⟩,h4⟩,h5⟩:=h
 refine ⟨h1,h2,fun y hy e=>?_,fun y hy e=>?_,mapChk_ok h5⟩
 ·rcases h3 y hy with z | z
  ·exact absurd e z
  ·exact z
 ·rcases h4 y hy with z | z
  ·exact absurd e z
  ·exact z
structure Src (J:It) (H:Hp) (xs:List V):Prop where
 go:∀ i,i < xs.length->J.go i H
 yld:∀ i x H',i < xs.length->J.yld i H x H'->H'=H/\xs[i]?=some x
 stop:∀ i,xs.length<=i->J.stop i H
theorem src_range (lo:Int) (n:Nat) (H:Hp):Src (Itr lo n) H ((List.range n).map fun i=>V.int (lo+(i:Nat))) where
 go:=fun i h=>by
  rw [List.length_map,List.length_range] at h
  exact h
 yld:=fun i x H' hi h=>by
  obtain ⟨e,rfl⟩:=h
  rw [List.length_map,List.length_range] at hi
  exact ⟨e,by rw [List.getElem?_map,List.getElem?_range hi];rfl⟩
 stop:=fun i h=>by
  rw [List.length_map,List.length_range] at h
  exact h
theorem src_list {K:PySem.W.Frag} {H:Hp} {a:Addr} {xs:List V} (h:SqL K H a xs):Src (Itl K a) H xs where
 go:=fun i hi=>⟨xs,xs[i],h,by simp [hi]⟩
 yld:=fun i x H' _ q=>⟨q.1,q.2 xs h⟩
 stop:=fun i hi=>⟨xs,h,hi⟩
theorem src_tup {K:PySem.W.Frag} {H:Hp} {a:Addr} {xs:List V} (h:SqT K H a xs):Src (Itt K a) H xs where
 go:=fun i hi=>⟨xs,xs[i],h,by simp [hi]⟩
 yld:=fun i x H' _ q=>⟨q.1,q.2 xs h⟩
 stop:=fun i hi=>⟨xs,h,hi⟩
theorem comp_pure {α:Type} {J:It} {H:Hp} {as:List α} {v:α->V} (f:α->Bool) (e:α->V) {tt:TT} {te:TE} {Q:VK} {rest:L2.St} (S:Src J H (as.map v)) (hz:as.length<=sizeLine)
  (ht:∀ a ∈ as,∀ k:Bool->Hp->Prop,k (f a) H->tt (some (v a) :: rest) H k) (he:∀ a ∈ as,f a=true->∀ k:VK,k (e a) H->te (some (v a) :: rest) H k)
  (hq:∀ D,H D=none->Q (.ref D) (upd H D (.lst ((as.filter f).map e)))):wComp J (gName 0) tt te Q (none :: rest) H:=by
 refine ⟨fun i m σ acc H'=>H'=H/\i<=as.length/\m=as.length - i/\acc=((as.take i).filter f).map e/\∃ o,σ=o :: rest,⟨as.length,rfl,Nat.zero_le _,rfl,by simp,none,rfl⟩,?_⟩
 rintro i m σ acc H' ⟨rfl,hi,rfl,rfl,o,rfl⟩
 have hacc:(((as.take i).filter f).map e).length<=i:=by
  rw [List.length_map]
  exact Nat.le_trans (List.length_filter_le _ _) (by rw [List.length_take];exact Nat.min_le_left _ _)
 by_cases hlt:i < as.length
 ·refine .inr ⟨S.go i (by rw [List.length_map];exact hlt),fun x H1 y=>?_⟩
  obtain ⟨rfl,hx⟩:=S.yld i x H1 (by rw [List.length_map];exact hlt) y
  rw [List.getElem?_map,List.getElem?_eq_getElem hlt] at hx
  have hx':v as[i]=x:=Option.some.inj hx
  subst hx'
  have hm:as[i] ∈ as:=List.getElem_mem hlt
  have ts:as.take (i+1)=as.take i++[as[i]]:=List.take_succ_eq_append_getElem hlt
  show tt (some (v as[i]) :: rest) H1 _
  refine ht _ hm _ ?_
  cases hf:f as[i] with
  | true=>
   rw [if_pos rfl]
   refine he _ hm hf _ ⟨by omega,as.length - (i+1),by omega,rfl,hlt,rfl,?_,_,rfl⟩
   rw [ts,List.filter_append,List.map_append,List.filter_cons_of_pos hf]
   rfl
  | false=>
   rw [if_neg Bool.false_ne_true]
   refine ⟨as.length - (i+1),by omega,rfl,hlt,rfl,?_,_,rfl⟩
   rw [ts,List.filter_append,List.filter_cons_of_neg (by rw [hf];exact Bool.false_ne_true)]
   simp
 ·have ei:i=as.length:=by omega
  subst ei
  refine .inl ⟨S.stop _ (by rw [List.length_map];exact Nat.le_refl _),by omega,fun D hD=>?_⟩
  rw [List.take_length]
  exact hq D hD
theorem comp_map {α:Type} {J:It} {H:Hp} {as:List α} {v:α->V} (e:α->V) {te:TE} {Q:VK} {rest:L2.St} (S:Src J H (as.map v)) (hz:as.length<=sizeLine)
  (he:∀ a ∈ as,∀ k:VK,k (e a) H->te (some (v a) :: rest) H k)
  (hq:∀ D,H D=none->Q (.ref D) (upd H D (.lst (as.map e)))):wComp J (gName 0) tYes te Q (none :: rest) H:=
 comp_pure (fun _=>true) e S hz (fun a _ k hk=>hk) (fun a ha _ k hk=>he a ha k hk) fun D hD=>by
  have e1:as.filter (fun _=>true)=as:=by simp
  rw [e1];exact hq D hD
section
variable {X:Cx} {st:Stmt} {t:TS}
def tMid (t:TS):TS:=fun D σ H=>∃ M:L2.St->Hp->Prop,t { D with nx:=M } σ H/\∀ σ' H',M σ' H'->D.nx σ' H'
theorem ps_mid (h:PS X st t):PS X st (tMid t):=by
 intro pins s σ H D I hw
 obtain ⟨M,h1,h2⟩:=hw
 refine thn (h pins s σ H { D with nx:=M } I h1) fun f s' q=>?_
 cases f with
 | next=>
  obtain ⟨σ',H',I',m⟩:=q
  exact ⟨σ',H',I',h2 _ _ m⟩
 | ret v=>exact q
 | brk=>exact q
 | cont=>exact q
end
theorem szl:(sizeLine:Nat)=16777216:=sizeLine_eq
theorem few {n:Nat} (h:n<=100000):n<=sizeLine:=by rw [szl];omega
theorem fewer {n:Nat} (h:n<=100000):n < sizeLine:=by rw [szl];omega
end L3
namespace Vm
open PySem L2 L3
def Al (c:Nat):Prop:=97<=c/\c<=122
structure Good (z:Str):Prop where
 lo:1<=z.length
 hi:z.length<=12
 al:∀ c ∈ z.cps.toList,Al c
def letters:Str := "abcdefghijklmnopqrstuvwxyz"
theorem letters_cps:letters.cps.toList=(List.range 26).map (97+·):=by decide +kernel
theorem clen (z:Str):z.cps.toList.length=z.length:=by simp [Str.length]
theorem Good.small {z:Str} (g:Good z):z.length<=sizeLine:=few (by have:=g.hi;omega)
def placesB (a b:List Nat):List Nat:=(List.range a.length).filter fun i=>!decide (a[i]?=b[i]?)
def alikeB (a b:List Nat):Bool:=if a.length=b.length then decide ((placesB a b).length=1) else false
theorem drop_min {α:Type} (l:List α) (n:Nat):l.drop (min n l.length)=l.drop n:=by
 by_cases h:n<=l.length
 ·rw [Nat.min_eq_left h]
 ·rw [Nat.min_eq_right (by omega),List.drop_of_length_le (Nat.le_refl l.length),List.drop_of_length_le (l:=l) (i:=n) (by omega)]
theorem al_mod (n:Nat) (h:n < 26):Al (97+n):=by unfold Al;omega
theorem app_list (a b:Str):(a++b).cps.toList=a.cps.toList++b.cps.toList:=by
 show (a.cps++b.cps).toList=_
 simp
theorem app_len (a b:Str):(a++b).length=a.length+b.length:=by
 show (a.cps++b.cps).size=_
 rw [Array.size_append];rfl
end Vm
namespace L3
open PySem PySem.Spec PyProof.Rows L2
open Builtin Builtin.Str
section
variable {X:Cx}
end
end L3
namespace Vm
open PySem L2 L3
end Vm
namespace L3
open PySem PySem.Spec PyProof.Rows L2
abbrev fra (l:List Env):List Addr:=L2.frs l
structure Exc (h:Heap) (e T C:Addr) (fl:Value):Prop where
 ob:∃ vs,h.get? e=some { cls:=.ref C,data:=.fields vs }/\vs[1]?=some (.ref T)
 tb:∃ oT ts,h.get? T=some oT/\oT.data=.fields ts/\ts[3]?=some fl
 ne:T ≠ e
structure Kpt (S fs:List Addr) (h h':Heap):Prop where
 keep:∀ b o,h.get? b=some o->b ∉ S->b ∉ fs->h'.get? b=some o
 slot:∀ b o,h.get? b=some o->b ∉ S->b ∈ fs->∃ sl,h'.get? b=some { o with slots:=sl }
theorem Kpt.trans {S fs:List Addr} {h h1 h2:Heap} (a:Kpt S fs h h1) (b:Kpt S fs h1 h2):Kpt S fs h h2:=
 ⟨fun c o e n m=>b.keep c o (a.keep c o e n m) n m,fun c o e n m=>by
  obtain ⟨sl,e1⟩:=a.slot c o e n m
  obtain ⟨sl2,e2⟩:=b.slot c _ e1 n m
  exact ⟨sl2,e2⟩⟩
theorem Kpt.mono {S S' fs:List Addr} {h h':Heap} (a:Kpt S fs h h') (k:∀ b ∈ S,b ∈ S'):Kpt S' fs h h':=
 ⟨fun c o e n m=>a.keep c o e (fun z=>n (k c z)) m,fun c o e n m=>a.slot c o e (fun z=>n (k c z)) m⟩
theorem Kpt.any {S fs:List Addr} {h h':Heap} (a:Kpt S fs h h') {b:Addr} {o:Obj} (e:h.get? b=some o) (n:b ∉ S):∃ sl,h'.get? b=some { o with slots:=sl }:=by
 by_cases m:b ∈ fs
 ·exact a.slot b o e n m
 ·exact ⟨o.slots,a.keep b o e n m⟩
theorem Kpt.funs {S fs:List Addr} {h h' base:Heap} {l:List Env} (a:Kpt S fs h h') (hl:h.FunFrames base l) (hn:∀ b ∈ S,b ∉ fra l):h'.FunFrames base l:=by
 have go:∀ (l':List Env),(∀ b ∈ fra l',b ∈ fra l)->h.FunFrames base l'->h'.FunFrames base l':=by
  intro l'
  induction l' with
  | nil=>intro _ _;trivial
  | cons env r ih=>
   intro hs hl'
   obtain ⟨hk,⟨L,o,hf,h0,ho,hd⟩,hr⟩:=hl'
   have hL:L ∈ fra (env :: r):=by unfold fra frs;rw [List.filterMap_cons,hf];exact List.mem_cons_self
   obtain ⟨sl,e⟩:=a.any ho fun z=>hn L z (hs L hL)
   exact ⟨hk,⟨L,_,hf,h0,e,hd⟩,ih (fun b hb=>hs b (by unfold fra frs;rw [List.filterMap_cons,hf];exact List.mem_cons_of_mem _ hb)) hr⟩
 exact go l (fun _ z=>z) hl
section
variable {M:Model} {A:Around} {E:Value->Shared->Prop} {s:Shared}
theorem not_frame {base:Heap} {l:List Env} {b:Addr} {o:Obj} {vs:Array Value} (hl:s.heap.FunFrames base l) (e:s.heap.get? b=some o) (d:o.data=.fields vs):b ∉ fra l:=fun z=>by
 obtain ⟨_,o',e',d'⟩:=hl.mem z
 rw [e] at e'
 cases e'
 exact d' vs d
theorem entry_new {base:Heap} {env:Env} {outer:List Env} {L e:Addr} {c head:Value} {vs:Array Value} {hadNext:Bool} {Q:Unit->Shared->Prop} (hfr:A.frames=some (env :: outer)) (hl:s.heap.FunFrames base (env :: outer)) (hf:env.frame=some L)
  (he:s.heap.get? e=some { cls:=c,data:=.fields vs }) (hz:1 < vs.size)
  (hQ:∀ h' T,s.heap.objs.size<=T->h'.get? e=some { cls:=c,data:=.fields (vs.setIfInBounds 1 (.ref T)) }->(∃ oT ts,h'.get? T=some oT/\oT.data=.fields ts/\ts[3]?=some (rawInt L))->Kpt [e] (fra (env :: outer)) s.heap h'->Q () { s with heap:=h' }) :
  wpAny M A (do let a <-frameOf env;let pl <-entryPlaceOf L hadNext;let b <-EntryCells.newEntry head a .none (rawInt L) .none pl;setField (.ref e) 1 b) Q E s:=by
 have nfr:e ∉ fra (env :: outer):=not_frame hl he rfl
 refine wpAny_bind (wpAny_frameOf_fun hfr hl hf fun k1 so=>?_)
 refine wpAny_bind (wpAny_entryPlaceOf fun pl ip=>?_)
 unfold EntryCells.newEntry newFields
 refine wpAny_bind (wpAny_newObj_type ?_ (ip.sizeOk5 _ _ _ _ _))
 generalize hob:({ cls:=.type "traceback",dict:=none,data:=.fields ([head,.ref L,.none,rawInt L,.none]++(if pl.isEmpty then List.replicate 6 Value.none else pl)).toArray }:Obj)=ob
 have e1:k1.get? e=some { cls:=c,data:=.fields vs }:=(so.2.1 e nfr).trans he
 have e2:=Heap.get?_push_of_some (h:=k1) ob e1
 have nT:k1.objs.size ≠ e:=Nat.ne_of_gt (Heap.lt_size e1)
 refine wpAny_setField e2 rfl hz (hQ _ k1.objs.size (Nat.le_of_eq so.1.symm) ?_ ?_ ⟨fun b o eb nb mb=>?_,fun b o eb nb mb=>?_⟩)
 ·exact Heap.get?_update_self _ e2 rfl
 ·refine ⟨ob,([head,.ref L,.none,rawInt L,.none]++(if pl.isEmpty then List.replicate 6 Value.none else pl)).toArray,?_,by rw [<-hob],by simp⟩
  rw [Heap.get?_update_other _ _ (Ne.symm nT)]
  exact Heap.get?_push_size k1 (by rw [<-hob];rfl)
 ·have nb':b ≠ e:=fun z=>nb (by rw [z];exact List.mem_cons_self)
  rw [Heap.get?_update_other _ _ (Ne.symm nb')]
  exact Heap.get?_push_of_some _ ((so.2.1 b mb).trans eb)
 ·have nb':b ≠ e:=fun z=>nb (by rw [z];exact List.mem_cons_self)
  obtain ⟨sl,q⟩:=so.2.2 b o eb
  exact ⟨sl,by rw [Heap.get?_update_other _ _ (Ne.symm nb')];exact Heap.get?_push_of_some _ q⟩
theorem set1 {vs:Array Value} {v:Value} (h:1 < vs.size):(vs.setIfInBounds 1 v)[1]?=some v:=by simp [h]
theorem note_new {base:Heap} {env:Env} {outer:List Env} {L e C:Addr} {vs:Array Value} {Q:Unit->Shared->Prop} (hfr:A.frames=some (env :: outer)) (hl:s.heap.FunFrames base (env :: outer)) (hf:env.frame=some L)
  (he:s.heap.get? e=some { cls:=.ref C,data:=.fields vs }) (h1:vs[1]?=some .none)
  (hQ:∀ h' T,s.heap.objs.size<=T->Exc h' e T C (rawInt L)->Kpt [e] (fra (env :: outer)) s.heap h'->Q () { s with heap:=h' }):wpAny M A (noteFrame (.ref e) env) Q E s:=by
 have hz:1 < vs.size:=(Array.getElem?_eq_some_iff.mp h1).1
 unfold noteFrame
 simp only [hf]
 refine wpAny_bind (wpAny_field he rfl h1 ?_)
 rw [if_neg (by decide)]
 refine entry_new hfr hl hf he hz fun h' T hT ho ht kp=>hQ h' T hT ⟨⟨_,ho,set1 hz⟩,ht,fun z=>?_⟩ kp
 rw [z] at hT
 exact absurd (Heap.lt_size he) (Nat.not_lt.mpr hT)
theorem note_on {base:Heap} {env:Env} {outer:List Env} {L e T0 C:Addr} {Q:Unit->Shared->Prop} (hfr:A.frames=some (env :: outer)) (hl:s.heap.FunFrames base (env :: outer)) (hf:env.frame=some L) (x:Exc s.heap e T0 C .none)
  (hQ:∀ h' T,s.heap.objs.size<=T->Exc h' e T C (rawInt L)->Kpt [e,T0] (fra (env :: outer)) s.heap h'->Q () { s with heap:=h' }):wpAny M A (noteFrame (.ref e) env) Q E s:=by
 obtain ⟨⟨vs,he,h1⟩,⟨oT,ts,hT,dT,h3⟩,ne⟩:=x
 have hz:1 < vs.size:=(Array.getElem?_eq_some_iff.mp h1).1
 unfold noteFrame
 simp only [hf]
 refine wpAny_bind (wpAny_field he rfl h1 ?_)
 rw [if_pos (show (Value.ref T0 != Value.none)=true by simp)]
 refine wpAny_bind (wpAny_field hT dT h3 ?_)
 rw [if_neg (show ¬ ((Value.none == rawInt L)=true) by simp [rawInt])]
 refine wpAny_bind (wpAny_setField hT dT (Array.getElem?_eq_some_iff.mp h3).1 ?_)
 have oth:∀ b,b ≠ T0->(s.heap.update T0 (Obj.mapFields (·.setIfInBounds 3 Value.none))).get? b=s.heap.get? b:=fun b hb=>Heap.get?_update_other _ _ (Ne.symm hb)
 have k0:Kpt [e,T0] (fra (env :: outer)) s.heap (s.heap.update T0 (Obj.mapFields (·.setIfInBounds 3 Value.none))):=⟨fun b o eb nb _=>(oth b fun z=>nb (by rw [z];simp)).trans eb,fun b o eb nb _=>⟨o.slots,(oth b fun z=>nb (by rw [z];simp)).trans eb⟩⟩
 have hl':(s.heap.update T0 (Obj.mapFields (·.setIfInBounds 3 Value.none))).FunFrames base (env :: outer):=k0.funs hl fun b hb=>by
  rcases List.mem_cons.mp hb with z | z
  ·rw [z];exact not_frame hl he rfl
  ·rw [List.mem_singleton.mp z];exact not_frame hl hT dT
 refine entry_new (s:={ s with heap:=s.heap.update T0 (Obj.mapFields (·.setIfInBounds 3 Value.none)) }) hfr hl' hf ((oth e (Ne.symm ne)).trans he) hz fun h' T hle ho ht kp=>?_
 have hsz:(s.heap.update T0 (Obj.mapFields (·.setIfInBounds 3 Value.none))).objs.size=s.heap.objs.size:=Heap.size_after_update ..
 have hle':s.heap.objs.size<=T:=by rw [<-hsz];exact hle
 refine hQ h' T hle' ⟨⟨_,ho,set1 hz⟩,ht,fun z=>?_⟩ (k0.trans (kp.mono fun b hb=>by rw [List.mem_singleton.mp hb];simp))
 rw [z] at hle'
 exact absurd (Heap.lt_size he) (Nat.not_lt.mpr hle')
theorem flight_set {e T C:Addr} {fl:Value} {to:Option Addr} {Q:Unit->Shared->Prop} (x:Exc s.heap e T C fl)
  (hQ:∀ h',Exc h' e T C (to.elim Value.none fun f=>rawInt f)->(∀ b,b ≠ T->h'.get? b=s.heap.get? b)->h'.objs.size=s.heap.objs.size->Q () { s with heap:=h' }):wpAny M A (setFlight (.ref e) to) Q E s:=by
 obtain ⟨⟨vs,he,h1⟩,⟨oT,ts,hT,dT,h3⟩,ne⟩:=x
 have hz:3 < ts.size:=(Array.getElem?_eq_some_iff.mp h3).1
 unfold setFlight
 refine wpAny_bind (wpAny_field he rfl h1 ?_)
 rw [if_pos (show (Value.ref T != Value.none)=true by simp)]
 have oth:∀ b,b ≠ T->(s.heap.update T (Obj.mapFields (·.setIfInBounds 3 (to.elim Value.none fun f=>rawInt f)))).get? b=s.heap.get? b:=fun b hb=>Heap.get?_update_other _ _ (Ne.symm hb)
 refine wpAny_setField hT dT hz (hQ _ ⟨⟨vs,(oth e (Ne.symm ne)).trans he,h1⟩,⟨_,_,Heap.get?_update_self _ hT (Obj.isFreed_of_fields (Obj.data_mapFields dT _)),Obj.data_mapFields dT _,by simp [hz]⟩,ne⟩ oth (Heap.size_after_update ..))
end
section
variable {M:Model} {A:Around} {E:Value->Shared->Prop}
structure XCls (h:Heap) (C:Addr) (bm:List Value):Prop where
 ex:∃ nm q N bs hdct sn sub ab col dd k0 k1 k2 k3 k5 newId,h.get? C=some (excClassObj nm q C N bs bm hdct sn sub ab col dd k0 k1 k2 k3 k5 newId)
 bs:bm.contains (.type "BaseException")=true
theorem exc_hit {s:Shared} {C D e:Addr} {bm bd:List Value} {oe:Obj} {b:Bool} {Q:Bool->Shared->Prop} (xC:XCls s.heap C bm) (xD:XCls s.heap D bd) (he:s.heap.get? e=some oe) (hc:oe.cls=.ref C)
  (hit:(Value.ref C :: bm).contains (.ref D)=b) (hq:Q b s):wpAny M A (excMatches (.ref e) (.ref D)) Q E s:=by
 obtain ⟨hp,g,d,tk,os⟩:=s
 obtain ⟨⟨nm,q,N,bs,hd,sn,sub,ab,col,dd,k0,k1,k2,k3,k5,ni,hC⟩,_⟩:=xC
 obtain ⟨⟨nm',q',N',bs',hd',sn',sub',ab',col',dd',k0',k1',k2',k3',k5',ni',hD⟩,hB⟩:=xD
 have hB':(Value.ref D :: bd).contains (.type "BaseException")=true:=by rw [List.contains_cons,hB,Bool.or_true]
 have nt:=tc_notTuple
 unfold excMatches
 repeat (first
  | (with_reducible refine wpAny_loadPart_at hD ?_)
  | (with_reducible refine wpAny_isSubtype_exc hD ?_;rw [hB'])
  | (with_reducible refine wpAny_loadPart_at he ?_;rw [hc])
  | (with_reducible refine wpAny_isSubtype_exc hC ?_;rw [hit])
  | wp_step)
 all_goals (cases b <;> (try wp_walk) <;> exact hq)
end
section
variable {P:Program} {w:World} {H H':Hp} {h h1 h2:Heap} {fs fs' S ex:List Addr}
theorem objOk_there {a:Addr} {o:HO} (x:ObjOk P w H h a o):∃ ob,h.get? a=some ob:=by
 cases o with
 | lst xs=>obtain ⟨_,_,_,_,e⟩:=x;exact ⟨_,e⟩
 | tup xs=>obtain ⟨_,_,_,ob,e,_⟩:=x;exact ⟨_,e⟩
 | dK kvs=>obtain ⟨_,_,_,_,o,_,_,e,_⟩:=x;exact ⟨_,e⟩
 | dT kvs=>exact False.elim x
 | set S n=>obtain ⟨o,_,_,_,e,_⟩:=x;exact ⟨_,e⟩
 | ins C dx f=>obtain ⟨_,_,_,e,_⟩:=x;exact ⟨_,e⟩
 | own y=>exact x
 | xd f=>obtain ⟨_,⟨_,_,_,e,_⟩,_⟩:=x;exact ⟨_,e⟩
 | rng lo hi=>obtain ⟨_,_,_,e⟩:=x;exact ⟨_,e⟩
 | frz ob u=>exact ⟨_,x.1⟩
 | tbl ps=>exact ⟨_,show h.get? a=some _ from x⟩
 | met f y=>exact ⟨_,show h.get? a=some _ from x⟩
 | ext φ=>exact x.2.1
theorem hok_none (k:HOk P w H h) {a:Addr} (e:h.get? a=none):H a=none:=by
 cases q:H a with
 | none=>rfl
 | some o=>
  obtain ⟨ob,z⟩:=objOk_there (k a o q)
  rw [e] at z
  cases z
theorem un_kpt (u:Un fs ex H H' h h1) (k:Kpt S fs' h1 h2) (hS:∀ b ∈ S,h.get? b=none) (hf:∀ b ∈ fs',b ∈ fs\/h.get? b=none):Un fs ex H H' h h2 where
 keep:=fun b o e n hb hx=>k.keep b o (u.keep b o e n hb hx) (fun z=>by rw [hS b z] at e;cases e) fun z=>by
  rcases hf b z with q | q
  ·exact hb q
  ·rw [q] at e;cases e
 slot:=fun b o e n hb hx=>by
  obtain ⟨sl,q⟩:=u.slot b o e n hb hx
  obtain ⟨sl',q'⟩:=k.any q fun z=>by rw [hS b z] at e;cases e
  exact ⟨sl',q'⟩
 free:=u.free
 there:=fun b o e hx=>by
  obtain ⟨o',q⟩:=u.there b o e hx
  obtain ⟨sl,q'⟩:=k.any q fun z=>by rw [hS b z] at e;cases e
  exact ⟨_,q'⟩
 tups:=u.tups
 frzs:=u.frzs
 tbls:=u.tbls
theorem hok_kpt (x:HOk P w H h1) (k:Kpt S fs' h1 h2) (hS:∀ b ∈ S,H b=none) (hf:∀ b ∈ fs',H b=none):HOk P w H h2:=fun b o e=>
 (x b o e).stay (fun c v hc q=>by
  have hn:H c ≠ none:=by
   rcases hc with z | z
   ·rw [z,e];exact fun z=>nomatch z
   ·rw [z];exact fun z=>nomatch z
  exact k.keep c v q (fun z=>hn (hS c z)) fun z=>hn (hf c z)) (fun _ q=>q) fun _ _ q=>q
end
section
variable {X:Cx} {pins:List (Addr × Obj)} {σ:L2.St} {H:Hp} {s:Shared} {S:List Addr}
theorem inv_kpt {h':Heap} {t':Nat} (I:Inv X pins σ H s) (k:Kpt S (frs X.stack) s.heap h') (h0:∀ b ∈ S,X.s₀.heap.get? b=none) (hl:∀ b ∈ S,b ≠ X.env.locals) (hc:∀ b ∈ S,∀ x c,X.env.cells.lookup x=some c->c ≠ b)
  (hp:∀ b ∈ S,∀ p ∈ X.pn++pins,p.1 ≠ b) (hn:∀ b ∈ S,H b=none):Inv X pins σ H { s with heap:=h',toks:=t' } where
 ok:=I.ok
 os:=I.os
 bare:=I.bare
 base:=un_kpt I.base k h0 fun b hb=>by
  rcases List.mem_cons.mp (I.stkSub b hb) with z | z
  ·refine .inr ?_
   rw [z]
   exact Heap.get?_none_of_le I.ok.above
  ·exact .inl z
 loc:=by
  obtain ⟨m,⟨o,es,ep,ho,r⟩,hv⟩:=I.loc
  obtain ⟨sl,q⟩:=k.any ho fun z=>hl _ z rfl
  refine ⟨m,⟨_,es,ep,q,r⟩,fun i x v e1 e2 e3=>?_⟩
  obtain ⟨u,ru,l⟩:=hv i x v e1 e2 e3
  refine ⟨u,ru,?_⟩
  rcases l with l | ⟨kk,c,e,oc,hoc,hd⟩
  ·exact .inl l
  ·obtain ⟨sl',q'⟩:=k.any hoc fun z=>hc c z x c e rfl
   exact .inr ⟨kk,c,e,_,q',hd⟩
 cell:=fun x c e=>by
  obtain ⟨v,oc,hoc,hd⟩:=I.cell x c e
  obtain ⟨sl',q'⟩:=k.any hoc fun z=>hc c z x c e rfl
  exact ⟨v,_,q',hd⟩
 free:=I.free
 freeC:=I.freeC
 pin:=fun p hp'=>by
  obtain ⟨e,n,ne,nf,d⟩:=I.pin p hp'
  refine ⟨k.keep p.1 p.2 e (fun z=>hp p.1 z p hp' rfl) (fun z=>?_),n,ne,nf,d⟩
  rcases List.mem_cons.mp (I.stkSub p.1 z) with q | q
  ·exact ne q
  ·exact nf q
 hok:=hok_kpt I.hok k hn I.stkFree
 len:=I.len
theorem inv_track {a:Addr} {o:HO} (I:Inv X pins σ H s) (h0:X.s₀.heap.get? a=none) (hl:a ≠ X.env.locals) (hc:∀ x c,X.env.cells.lookup x=some c->c ≠ a) (hp:∀ p ∈ X.pn++pins,p.1 ≠ a) (hn:H a=none)
  (ok:ObjOk X.prog X.w (upd H a o) s.heap a o):Inv X pins σ (upd H a o) s where
 ok:=I.ok
 os:=I.os
 bare:=I.bare
 base:=⟨I.base.keep,I.base.slot,fun b ob e n hx=>by rw [upd_ne fun z=>by rw [z,h0] at e;cases e];exact I.base.free b ob e n hx,I.base.there,
  fun b xs e=>by have q:=I.base.tups b xs e;rw [upd_ne (ne_of_none q hn)];exact q,fun b ob u e=>by have q:=I.base.frzs b ob u e;rw [upd_ne (ne_of_none q hn)];exact q,
  fun b ps e=>by obtain ⟨m,q⟩:=I.base.tbls b ps e;exact ⟨m,by rw [upd_ne (ne_of_none q hn)];exact q⟩⟩
 loc:=I.loc
 cell:=I.cell
 free:=by rw [upd_ne (Ne.symm hl)];exact I.free
 freeC:=fun x c e=>by rw [upd_ne (hc x c e)];exact I.freeC x c e
 pin:=fun p hp'=>by
  obtain ⟨e,n,r⟩:=I.pin p hp'
  exact ⟨e,by rw [upd_ne (hp p hp')];exact n,r⟩
 hok:=fun b u e=>by
  by_cases hb:b=a
  ·subst hb;rw [upd_same] at e;cases e;exact ok
  ·rw [upd_ne hb] at e
   exact (I.hok b u e).stay (fun _ _ _ q=>q) (fun c q=>by rw [upd_ne (ne_of_none q hn)];exact q) fun c xs q=>by rw [upd_ne (ne_of_none q hn)];exact q
 len:=I.len
end
def CXv (P:Program) (w:World):CXT:=fun outer H s E e s'=>∃ (ea T C:Addr) (H':Hp),e=.ref ea/\Exc s'.heap ea T C .none/\s.heap.get? ea=none/\s.heap.get? T=none/\H' ea=none/\H' T=none ∧
 s'.os=s.os/\AllBare s'.gens/\Un (frs outer) [] H H' s.heap s'.heap/\HOk P w H' s'.heap/\E (.ref C) none H'
def Lands (X:Cx) (E:XK):Prop:=∀ (pins:List (Addr × Obj)) (σ:L2.St) (H:Hp) (s:Shared) (h':Heap) (ea C:Addr) (vs:Array Value),Inv X pins σ H s->(∀ b o,s.heap.get? b=some o->h'.get? b=some o)->s.heap.get? ea=none →
 h'.get? ea=some { cls:=.ref C,data:=.fields vs }->vs[1]?=some .none->E (.ref C) none H->X.xe (.ref ea) { s with heap:=h' }
section
variable {P:Program} {w:World} {K:PySem.W.Frag} {mg:Str->Option Value} {base:Heap} {N:List Str} {qual:Str} {scope:Scope} {f:Addr} {cd:Value} {A:Around} {outer:List Env} {s0:Shared} {H0:Hp} {E:XK}
theorem old_none {X:Cx} {pins:List (Addr × Obj)} {σ:L2.St} {H:Hp} {s:Shared} (I:Inv X pins σ H s) (hex:X.ex=[]) {b:Addr} (e:s.heap.get? b=none):X.s₀.heap.get? b=none:=by
 cases q:X.s₀.heap.get? b with
 | none=>rfl
 | some o=>
  obtain ⟨o',z⟩:=I.base.there b o q (by rw [hex];simp)
  rw [e] at z
  cases z
theorem size_none {h:Heap} {b:Addr} (e:h.objs.size<=b):h.get? b=none:=Heap.get?_none_of_le e
theorem lands_def:Lands (cxOf (CXv P w) P w K mg base N qual scope f cd A outer s0 H0 E) E:=by
 intro pins σ H s h' ea C vs I kp new ho h1 hE
 have I':=I.kept (t':=s.toks) (h':=h') kp
 have st:=I'.stack
 show wpAny (model P w) (A.deeper (envOfC qual scope s0.heap.objs.size f cd)) (leaving (envOfC qual scope s0.heap.objs.size f cd) (.ref ea)) _ _ { s with heap:=h' }
 unfold leaving
 refine wpAny_bind (note_new (s:={ s with heap:=h' }) (base:=base) (outer:=outer) (L:=s0.heap.objs.size) I'.ok.frames st rfl ho h1 fun k1 T hT x1 kp1=>?_)
 refine flight_set (to:=none) x1 fun k2 x2 oth sz=>?_
 have nT:∀ b o,h'.get? b=some o->b ≠ T:=fun b o e z=>by
  rw [z] at e
  exact absurd (Heap.lt_size e) (Nat.not_lt.mpr hT)
 have kp2:Kpt [ea] (frs ((cxOf (CXv P w) P w K mg base N qual scope f cd A outer s0 H0 E).stack)) h' k2:=⟨fun b o e n m=>(oth b (nT b o e)).trans (kp1.keep b o e n m),fun b o e n m=>by
  obtain ⟨sl,q⟩:=kp1.slot b o e n m
  exact ⟨sl,(oth b (nT b o e)).trans q⟩⟩
 have n0:s0.heap.get? ea=none:=old_none I rfl new
 have hne:H ea=none:=hok_none I.hok new
 have n1:h'.get? T=none:=size_none hT
 have hnT:H T=none:=hok_none I'.hok n1
 have hs:∀ b ∈ [ea],s0.heap.get? b=none:=fun b hb=>by rw [List.mem_singleton.mp hb];exact n0
 refine ⟨ea,T,C,H,rfl,x2,n0,old_none I' rfl n1,hne,hnT,I.os,I.bare,un_kpt I'.base kp2 hs fun b hb=>?_,hok_kpt I'.hok kp2 (fun b hb=>by rw [List.mem_singleton.mp hb];exact hne) I'.stkFree,hE⟩
 rcases List.mem_cons.mp (I'.stkSub b hb) with z | z
 ·exact .inr (by rw [z];exact size_none I.ok.above)
 ·exact .inl z
theorem passes_def:Passes (CXv P w) (cxOf (CXv P w) P w K mg base N qual scope f cd A outer s0 H0 E) E:=by
 intro pins σ H s e s' I hx
 obtain ⟨ea,T0,C,H',rfl,x,n1,n2,t1,t2,os,bare,un,hok,hE⟩:=hx
 have I':Inv (cxOf (CXv P w) P w K mg base N qual scope f cd A outer s0 H0 E) pins σ H' s':=I.call' os un hok bare fun b z=>absurd z (by simp)
 have st:=I'.stack
 show wpAny (model P w) (A.deeper (envOfC qual scope s0.heap.objs.size f cd)) (leaving (envOfC qual scope s0.heap.objs.size f cd) (.ref ea)) _ _ s'
 unfold leaving
 refine wpAny_bind (note_on (base:=base) (outer:=outer) (L:=s0.heap.objs.size) I'.ok.frames st rfl x fun k1 T hT x1 kp1=>?_)
 refine flight_set (to:=none) x1 fun k2 x2 oth sz=>?_
 have nT:∀ b o,s'.heap.get? b=some o->b ≠ T:=fun b o e z=>by
  rw [z] at e
  exact absurd (Heap.lt_size e) (Nat.not_lt.mpr hT)
 have kp2:Kpt [ea,T0] (frs ((cxOf (CXv P w) P w K mg base N qual scope f cd A outer s0 H0 E).stack)) s'.heap k2:=⟨fun b o e n m=>(oth b (nT b o e)).trans (kp1.keep b o e n m),fun b o e n m=>by
  obtain ⟨sl,q⟩:=kp1.slot b o e n m
  exact ⟨sl,(oth b (nT b o e)).trans q⟩⟩
 have n0:s0.heap.get? ea=none:=old_none I rfl n1
 have n3:s'.heap.get? T=none:=size_none hT
 have two:∀ {Pr:Addr->Prop},Pr ea->Pr T0->∀ b ∈ [ea,T0],Pr b:=fun {Pr} a c b hb=>by
  rcases List.mem_cons.mp hb with z | z
  ·rw [z];exact a
  ·rw [List.mem_singleton.mp z];exact c
 refine ⟨ea,T,C,H',rfl,x2,n0,old_none I' rfl n3,t1,hok_none I'.hok n3,I'.os,I'.bare,un_kpt I'.base kp2 (two n0 (old_none I rfl n2)) fun b hb=>?_,hok_kpt I'.hok kp2 (two t1 t2) I'.stkFree,hE⟩
 rcases List.mem_cons.mp (I'.stkSub b hb) with z | z
 ·exact .inr (by rw [z];exact size_none I.ok.above)
 ·exact .inl z
theorem Fun.okX {x:Str} {st:Stmt} {f:Addr} {fd:FuncData} {N ps:List Str} {k:Nat} {sp:Sp} (F:Fun K x x st f fd) (S:FnScope N ps (defScope st)) (len:∀ vs H Q E,sp vs H Q E->vs.length=ps.length)
  (hbody:∀ (cdv:Value) (A:Around) (outer:List Env) (s:Shared) (H:Hp) (vs:List V) (Q:VK) (E:XK),Room k (A.deeper (envOfC x (defScope st) s.heap.objs.size f cdv))->sp vs H Q E →
   ∃ t,PSs (cxOf (CXv P w) P w K mg base N x (defScope st) f cdv A outer s H E) (defBody st) t/\t { nx:=fun _ H'=>Q .non H',rt:=Q } (start N vs) H):FnOk P w K mg base (CXv P w) (k+1) f fd ps sp:=by
 obtain ⟨oc,od,kV,doc,pm,an,cdv,ct,osl,rfl,lk,hcd⟩:=F.ex
 exact fn_of lk hcd S len fun A outer s H vs Q E hr hsp=>hbody cdv A outer s H vs Q E hr hsp
def SpX (sp:Sp):Sp:=fun vs H Q2 E2=>∃ (Q:VK) (E:XK),(∀ v H',Rst H H' (Q v)->Q2 v H')/\(∀ c o H',Rst H H' (E c o)->E2 c o H')/\sp vs H Q E
theorem FnOk.rstX {k:Nat} {f:Addr} {fd:FuncData} {ps:List Str} {sp:Sp} (F:FnOk P w K mg base (CXv P w) k f fd ps (SpX sp)):FnOk P w K mg base (CXv P w) k f fd ps sp:=
 ⟨fun vs H Q E h=>F.len vs H (fun v H'=>Rst H H' (Q v)) (fun c o H'=>Rst H H' (E c o)) ⟨Q,E,fun _ _ z=>z,fun _ _ _ z=>z,h⟩,fun A outer s H args us vs Q E hr he hb hv hs=>
  codeAny_mono (F.run A outer s H args us vs (fun v H'=>Rst H H' (Q v)) (fun c o H'=>Rst H H' (E c o)) hr he hb hv ⟨Q,E,fun _ _ z=>z,fun _ _ _ z=>z,hs⟩) fun r s' hq=>by
   cases r with
   | error e=>
    obtain ⟨ea,T,C,H',e0,x,n1,n2,t1,t2,os,bare,un,hok,Hr,s1,s2,hn,q⟩:=hq
    exact ⟨ea,T,C,Hr,e0,x,n1,n2,s2.free t1,s2.free t2,os,bare,un_rst un s1 s2,hok_rst he.hok hok s1 s2 hn,q⟩
   | ok fl=>
    cases fl with
    | ret u=>
     obtain ⟨v,H',e1,e2,e3,e4,e5,Hr,s1,s2,hn,q⟩:=hq
     exact ⟨v,Hr,e1,e2,un_rst e3 s1 s2,hok_rst he.hok e4 s1 s2 hn,e5,q⟩
    | next=>exact False.elim hq
    | brk=>exact False.elim hq
    | cont=>exact False.elim hq⟩
theorem Fun.okXR {x:Str} {st:Stmt} {f:Addr} {fd:FuncData} {N ps:List Str} {k:Nat} {sp:Sp} (F:Fun K x x st f fd) (S:FnScope N ps (defScope st)) (len:∀ vs H Q E,sp vs H Q E->vs.length=ps.length)
  (hbody:∀ (cdv:Value) (A:Around) (outer:List Env) (s:Shared) (H:Hp) (vs:List V) (Q Q2:VK) (E E2:XK),Room k (A.deeper (envOfC x (defScope st) s.heap.objs.size f cdv))->sp vs H Q E->(∀ v H',Rst H H' (Q v)->Q2 v H')->(∀ c o H',Rst H H' (E c o)->E2 c o H') →
   ∃ t,PSs (cxOf (CXv P w) P w K mg base N x (defScope st) f cdv A outer s H E2) (defBody st) t/\t { nx:=fun _ H'=>Q2 .non H',rt:=Q2 } (start N vs) H):FnOk P w K mg base (CXv P w) (k+1) f fd ps sp:=
 FnOk.rstX (Fun.okX F S (fun vs H Q2 E2 ⟨Q,E,_,_,h⟩=>len vs H Q E h) fun cdv A outer s H vs Q2 E2 hr ⟨Q,E,hq,hE,h⟩=>hbody cdv A outer s H vs Q Q2 E E2 hr h hq hE)
end
theorem exc_obj {K:PySem.W.Frag} {h:Heap} {C:Addr} {bmB:List Value} {newId:String} (X:K.In h) (q:PySem.W.excIn K C bmB newId=true) :
  ∃ bm N nm qn bs hd sn sub ab col dd k0 k1 k2 k3 k5 mN,K.lookup C=some (excClassObj nm qn C N bs bm hd sn sub ab col dd k0 k1 k2 k3 k5 newId)/\h.Ns N mN/\mN "__init__" = none/\PySem.W.tailIn K bmB bm=true:=by
 unfold PySem.W.excIn at q
 cases e1:K.lookup C with
 | none=>rw [e1] at q;cases q
 | some ob=>
  rw [e1] at q
  obtain ⟨cl,dd,dt,sl⟩:=ob
  split at q
  ·rename_i dd' cd sl' hq
   cases hq
   split at q
   ·rename_i C' bm k0 k1 k2 k3 n k5 hm hs
    simp only [Bool.and_eq_true,beq_iff_eq,Bool.not_eq_true'] at q
    obtain ⟨⟨⟨⟨⟨rfl,rfl⟩,hdel⟩,ht⟩,hok⟩,hni⟩:=q
    obtain ⟨nm,bs,mro,ns,qn,hd,sn,sub,ab,col,del⟩:=cd
    dsimp only at hm hdel hok hni
    subst hm hdel
    have hsl:sl=#[k0,k1,k2,k3,some (.builtin n),k5]:=by
     cases sl
     exact congrArg Array.mk hs
    subst hsl
    exact ⟨bm,ns,nm,qn,bs,hd,sn,sub,ab,col,dd,k0,k1,k2,k3,k5,_,rfl,.of_isNs (PySem.W.isNs_of_in X hok),PySem.W.nsMap_none_of_in X hok hni,ht⟩
   ·cases q
  ·cases q
def vmro:List Value:=[.type "ValueError",.type "Exception",.type "BaseException",.type "object"]
abbrev VEx (K:PySem.W.Frag) (C:Addr):Prop:=PySem.W.excIn K C vmro "ValueError.__new__" = true
theorem VEx.cls {K:PySem.W.Frag} {h:Heap} {C:Addr} (X:K.In h) (q:VEx K C):∃ bm,XCls h C bm:=by
 obtain ⟨bm,N,nm,qn,bs,hd,sn,sub,ab,col,dd,k0,k1,k2,k3,k5,mN,e,_,_,ht⟩:=exc_obj X q
 exact ⟨bm,⟨nm,qn,N,bs,hd,sn,sub,ab,col,dd,k0,k1,k2,k3,k5,_,X _ _ e⟩,(PySem.W.tail_of_in X ht).hasType (by decide)⟩
section
variable {X:Cx} {x:Str} {C:Addr} {a:Expr} {ta:TE} {E:XK} {np cpos pos:Pos}
def tRaise (C:Addr) (ta:TE) (E:XK):TS:=fun _ σ H=>tCons ta tNil σ H fun vs H1=>vs.length<=sizeLine/\E (.ref C) none H1
theorem ps_raise (hc:X.calm=true) (hg:Gl X x) (hm:X.mg x=some (.ref C)) (hx:VEx X.K C) (L:Lands X E) (ha:PE X a ta) (hdb:(x == ("__debug__" : Str))=false:=by decide)
  (hs:starEach [a] X.env=[(false,eval a X.env)]:=by rfl) (hpl:(backTo cpos (starEach [a] X.env)).any (·.1)=false:=by rfl) :
  PS X (.Raise (some (.Call (.Name x np) [a] [] cpos)) none pos) (tRaise C ta E):=by
 intro pins s σ H D I h
 obtain ⟨bm,N,nm,qn,bs,hd,sn,sub,ab,col,dd,k0,k1,k2,k3,k5,mN,e,hN,hni,ht⟩:=exc_obj I.ok.mod.kin hx
 have T0:=PySem.W.tail_of_in I.kIn ht
 refine wpAny_Raise_call_subT (C:=C) (nm:=nm) (q:=qn) (N:=N) (bs:=bs) (bm:=bm) (hdct:=hd) (sn:=sn) (sub:=sub) (ab:=ab) (col:=col) (dd:=dd) (k0:=k0) (k1:=k1) (k2:=k2) (k3:=k3) (k5:=k5) (mN:=mN) F.excBase_ValueError (T0.hasType (by decide)) (I.ok.hd hc) hpl hni (ld_glob I hg hm ⟨rfl,?_⟩ hdb)
 have pa:PA X [a] (tCons ta tNil):=pa_cons ha pa_nil hs
 have hA:=pa cpos pins s σ H _ I h
 rw [hs] at hA ⊢
 refine Calls.evalArgs_plain (thn hA fun us s2 ⟨vs,H2,I2,r,hz,q⟩=>?_)
 refine ⟨rfl,by rw [<-r.length];exact hz,I2.kIn _ _ e,hN.keeps I2.bk,PySem.W.tail_of_in I2.kIn ht,fun h' ea hm'=>?_⟩
 obtain ⟨t,he,_,_⟩:=hm'.there
 exact L pins σ H2 s2 h' ea C _ I2 hm'.keeps hm'.new he rfl q
end
def hand (X:Cx) (ea:Addr):Cx:={ X with A:=X.A.mark (some (.ref ea)),calm:=false,xe:=fun _ _=>False }
section
variable {X:Cx} {pins:List (Addr × Obj)} {σ:L2.St} {H:Hp} {s:Shared} {ea:Addr}
theorem ok_hand (ok:X.Ok):(hand X ea).Ok:=
 ⟨ok.mod,ok.kind,ok.glob,ok.blt,ok.above,ok.inj,ok.has,ok.cab,fun z=>absurd (show false=true from z) Bool.false_ne_true,ok.frames,ok.stk,ok.exf,ok.bs,ok.bsz,ok.noex,ok.exfs,ok.funs,ok.frf⟩
theorem inv_hand (I:Inv X pins σ H s):Inv (hand X ea) pins σ H s:=⟨ok_hand I.ok,I.os,I.bare,I.base,I.loc,I.cell,I.free,I.freeC,I.pin,I.hok,I.len⟩
theorem inv_unhand (ok:X.Ok) (I:Inv (hand X ea) pins σ H s):Inv X pins σ H s:=⟨ok,I.os,I.bare,I.base,I.loc,I.cell,I.free,I.freeC,I.pin,I.hok,I.len⟩
end
section
variable {X:Cx} {CX:CXT} {k:Nat} {f:Addr} {fd:FuncData} {ps:List Str} {sp:Sp} {fx x n c:Str} {e:Expr} {es:List Expr} {ta:TA} {p pos:Pos}
def Hits (K:PySem.W.Frag) (C D:Addr):Prop:=VEx K C/\VEx K D/\∀ h:Heap,K.In h->∀ bm,XCls h C bm->(Value.ref C :: bm).contains (.ref D)=true
end
end L3
namespace L3
open PySem PySem.Spec PyProof.Rows L2
def EqQ (K:PySem.W.Frag) (H:Hp):Nat->V->V->Bool->Prop
 | 0,x,y,b=>flatV x=true/\flatV y=true/\b=eqV x y
 | n+1,x,y,b=>EqQ K H n x y b\/∃ (p r:Addr) (xs ys:List V) (e:Nat->Bool),x=.ref p/\y=.ref r/\((SqL K H p xs/\SqL K H r ys)\/(SqT K H p xs/\SqT K H r ys)) ∧
   (∀ (i:Nat) (x y:V),xs[i]?=some x->ys[i]?=some y->EqQ K H n x y (e i))/\b=(decide (xs.length=ys.length) && (List.range xs.length).all e)
def EqS (K:PySem.W.Frag) (H:Hp) (n:Nat) (x y:V) (b:Bool):Prop:=∃ (p r:Addr) (xs ys:List V) (e:Nat->Bool),x=.ref p/\y=.ref r/\((SqL K H p xs/\SqL K H r ys)\/(SqT K H p xs/\SqT K H r ys)) ∧
   (∀ (i:Nat) (x y:V),xs[i]?=some x->ys[i]?=some y->EqQ K H n x y (e i))/\b=(decide (xs.length=ys.length) && (List.range xs.length).all e)
theorem EqS.q {K:PySem.W.Frag} {H:Hp} {n:Nat} {x y:V} {b:Bool} (h:EqS K H n x y b):EqQ K H (n+1) x y b:=.inr h
theorem EqQ.flat {K:PySem.W.Frag} {H:Hp} {x y:V} (hx:flatV x=true) (hy:flatV y=true):∀ n,EqQ K H n x y (eqV x y)
 | 0=>⟨hx,hy,rfl⟩
 | n+1=>.inl (EqQ.flat hx hy n)
theorem eqV_self {x:V} (h:flatV x=true):eqV x x=true:=by
 cases x with
 | non=>rfl
 | bl b=>show (b == b)=true;simp
 | int b=>show (b == b)=true;simp
 | str b=>show (b == b)=true;simp
 | _=>exact absurd (show false=true from h) Bool.false_ne_true
theorem all_true (n:Nat):(List.range n).all (fun _=>true)=true:=by simp
theorem EqS.strs {K:PySem.W.Frag} {H:Hp} {p r:Addr} {xs ys:List Str} (h:(SqL K H p (xs.map V.str)/\SqL K H r (ys.map V.str))\/(SqT K H p (xs.map V.str)/\SqT K H r (ys.map V.str))):EqS K H 0 (.ref p) (.ref r) (decide (xs=ys)):=by
 refine ⟨p,r,_,_,fun i=>decide (xs[i]?=ys[i]?),rfl,rfl,h,fun i x y hx hy=>?_,?_⟩
 ·rw [List.getElem?_map] at hx hy
  cases ex:xs[i]? with
  | none=>rw [ex] at hx;cases hx
  | some a=>
   cases ey:ys[i]? with
   | none=>rw [ey] at hy;cases hy
   | some b=>
    rw [ex] at hx;rw [ey] at hy
    cases hx;cases hy
    refine ⟨rfl,rfl,?_⟩
    show _=(a == b)
    rw [Bool.eq_iff_iff,decide_eq_true_eq,ex,ey];simp
 ·rw [List.length_map,List.length_map,Bool.eq_iff_iff,decide_eq_true_eq,Bool.and_eq_true,decide_eq_true_eq,List.all_eq_true]
  constructor
  ·rintro rfl
   exact ⟨rfl,fun i _=>decide_eq_true rfl⟩
  ·rintro ⟨hl,ha⟩
   refine List.ext_getElem? fun i=>?_
   by_cases hi:i < xs.length
   ·exact of_decide_eq_true (ha i (List.mem_range.mpr hi))
   ·rw [List.getElem?_eq_none (by omega),List.getElem?_eq_none (by omega)]
section
variable {X:Cx} {pins:List (Addr × Obj)} {σ:L2.St} {H:Hp} {s:Shared}
theorem eqq_self (I:Inv X pins σ H s):∀ {n:Nat} {x:V} {b:Bool},EqQ X.K H n x x b->b=true
 | 0,x,b,h=>by
  obtain ⟨h1,_,e⟩:=h
  rw [e];exact eqV_self h1
 | n+1,x,b,h=>by
  rcases h with h | ⟨p,r,xs,ys,e,e1,e2,hq,he,rfl⟩
  ·exact eqq_self I h
  ·rw [e1] at e2;cases e2
   have exy:xs=ys:=by
    rcases hq with ⟨a,c⟩ | ⟨a,c⟩
    ·exact I.list_inj a c
    ·exact I.tuple_inj a c
   subst exy
   rw [decide_eq_true rfl,Bool.true_and,List.all_eq_true]
   intro i hi
   have hlt:=List.mem_range.mp hi
   exact eqq_self I (he i xs[i] xs[i] (List.getElem?_eq_getElem hlt) (List.getElem?_eq_getElem hlt))
theorem vals_at {xs:List V} {us:List Value} (r:Vals xs us) {j:Nat} (h:j < us.length):∃ x,xs[j]?=some x/\RelV x us[j]:=by
 have hx:j < xs.length:=by rw [r.length];exact h
 obtain ⟨u,e,q⟩:=r.get (List.getElem?_eq_getElem hx)
 rw [List.getElem?_eq_getElem h] at e
 cases e
 exact ⟨_,List.getElem?_eq_getElem hx,q⟩
theorem rng_min {a b:Nat} {e:Nat->Bool}:((List.range (min a b)).all e && a == b)=(decide (a=b) && (List.range a).all e):=by
 by_cases h:a=b
 ·subst h;simp
 ·simp [h]
theorem eqs_rc {n:Nat} {A:Around} (I:Inv X pins σ H s) (hu:A.units+1 < cLine) (ih:∀ (x y:V) (b:Bool) (u v:Value),RelV x u->RelV y v->EqQ X.K H n x y b->SeqAt.EqAt A.in1 s u v b)
  {p r:Addr} {xs ys:List V} {e:Nat->Bool} (hq:(SqL X.K H p xs/\SqL X.K H r ys)\/(SqT X.K H p xs/\SqT X.K H r ys)) (he:∀ (i:Nat) (x y:V),xs[i]?=some x->ys[i]?=some y->EqQ X.K H n x y (e i)) :
  SeqAt.RcAt A s (.ref p) (.ref r) (decide (xs.length=ys.length) && (List.range xs.length).all e):=by
 have hu':A.units < cLine:=by omega
 rcases hq with ⟨a,c⟩ | ⟨a,c⟩
 ·obtain ⟨is,r1,p1,z1⟩:=I.list a
  obtain ⟨js,r2,p2,z2⟩:=I.list c
  have l1:=r1.length
  have l2:=r2.length
  by_cases hl:xs.length=ys.length
  ·rw [decide_eq_true hl,Bool.true_and]
   have q:=SeqAt.RcAt.lists (e:=e) p1.isList p2.isList (by rw [List.size_toArray,List.size_toArray];omega) hu' fun j h1 h2=>by
    rw [List.size_toArray] at h1 h2
    obtain ⟨x,ex,rx⟩:=vals_at r1 h1
    obtain ⟨y,ey,ry⟩:=vals_at r2 h2
    rw [List.getElem_toArray,List.getElem_toArray]
    exact ih x y _ _ _ rx ry (he j x y ex ey)
   rw [List.size_toArray,<-l1] at q
   exact q
  ·rw [decide_eq_false hl,Bool.false_and]
   exact SeqAt.RcAt.lists_lengths p1.isList p2.isList (by rw [List.size_toArray,List.size_toArray];simp;omega) hu'
 ·obtain ⟨is,r1,p1,z1⟩:=I.tuple a
  obtain ⟨js,r2,p2,z2⟩:=I.tuple c
  have l1:=r1.length
  have l2:=r2.length
  have q:=SeqAt.RcAt.tuples (e:=e) p1 p2 hu' fun j h1 h2=>by
   rw [List.size_toArray] at h1 h2
   obtain ⟨x,ex,rx⟩:=vals_at r1 h1
   obtain ⟨y,ey,ry⟩:=vals_at r2 h2
   rw [List.getElem_toArray,List.getElem_toArray]
   exact ih x y _ _ _ rx ry (he j x y ex ey)
  rw [List.size_toArray,List.size_toArray,<-l1,<-l2,rng_min] at q
  exact q
theorem eqs_ne {n:Nat} {A:Around} (I:Inv X pins σ H s) (hu:A.units+1 < cLine) (ih:∀ (x y:V) (b:Bool) (u v:Value),RelV x u->RelV y v->EqQ X.K H n x y b->SeqAt.EqAt A.in1 s u v b)
  {p r:Addr} {xs ys:List V} {e:Nat->Bool} (hq:(SqL X.K H p xs/\SqL X.K H r ys)\/(SqT X.K H p xs/\SqT X.K H r ys)) (he:∀ (i:Nat) (x y:V),xs[i]?=some x->ys[i]?=some y->EqQ X.K H n x y (e i)) :
  SeqAt.RcNeAt A s (.ref p) (.ref r) (!(decide (xs.length=ys.length) && (List.range xs.length).all e)):=by
 have hu':A.units < cLine:=by omega
 rcases hq with ⟨a,c⟩ | ⟨a,c⟩
 ·obtain ⟨is,r1,p1,z1⟩:=I.list a
  obtain ⟨js,r2,p2,z2⟩:=I.list c
  have l1:=r1.length
  have l2:=r2.length
  by_cases hl:xs.length=ys.length
  ·rw [decide_eq_true hl,Bool.true_and]
   have q:=SeqAt.RcNeAt.lists (e:=e) p1.isList p2.isList (by rw [List.size_toArray,List.size_toArray];omega) hu' fun j h1 h2=>by
    rw [List.size_toArray] at h1 h2
    obtain ⟨x,ex,rx⟩:=vals_at r1 h1
    obtain ⟨y,ey,ry⟩:=vals_at r2 h2
    rw [List.getElem_toArray,List.getElem_toArray]
    exact ih x y _ _ _ rx ry (he j x y ex ey)
   rw [List.size_toArray,<-l1] at q
   exact q
  ·rw [decide_eq_false hl,Bool.false_and]
   exact SeqAt.RcNeAt.lists_lengths p1.isList p2.isList (by rw [List.size_toArray,List.size_toArray];simp;omega) hu'
 ·obtain ⟨is,r1,p1,z1⟩:=I.tuple a
  obtain ⟨js,r2,p2,z2⟩:=I.tuple c
  have l1:=r1.length
  have l2:=r2.length
  have q:=SeqAt.RcNeAt.tuples (e:=e) p1 p2 hu' fun j h1 h2=>by
   rw [List.size_toArray] at h1 h2
   obtain ⟨x,ex,rx⟩:=vals_at r1 h1
   obtain ⟨y,ey,ry⟩:=vals_at r2 h2
   rw [List.getElem_toArray,List.getElem_toArray]
   exact ih x y _ _ _ rx ry (he j x y ex ey)
  rw [List.size_toArray,List.size_toArray,<-l1,<-l2,rng_min] at q
  exact q
theorem eqq_at (I:Inv X pins σ H s):∀ {n:Nat} {A:Around} {x y:V} {b:Bool} {u v:Value},A.units+n < cLine->RelV x u->RelV y v->EqQ X.K H n x y b->SeqAt.EqAt A s u v b
 | 0,A,x,y,b,u,v,hu,rx,ry,h=>by
  obtain ⟨h1,h2,e⟩:=h
  rw [e];exact eqAt_V rx ry h1 h2
 | n+1,A,x,y,b,u,v,hu,rx,ry,h=>by
  rcases h with h | ⟨p,r,xs,ys,e,rfl,rfl,hq,he,hb⟩
  ·exact eqq_at I (by omega) rx ry h
  ·cases rx;cases ry
   by_cases hp:p=r
   ·subst hp
    have:=eqq_self I (n:=n+1) (.inr ⟨p,p,xs,ys,e,rfl,rfl,hq,he,hb⟩)
    rw [this];exact SeqAt.EqAt.same _
   ·rw [hb]
    exact SeqAt.EqAt.of_refs hp (eqs_rc I (by omega) (fun x y b u v rx ry q=>eqq_at I (A:=A.in1) (by show A.units+1+n < cLine;omega) rx ry q) hq he)
theorem op_eqS (hu:X.A.units+64 < cLine):OpR X (compareOp .Eq) (fun x y H Q=>∃ n b,n<=20/\EqS X.K H n x y b/\Q (.bl b) H):=by
 intro pins s σ H x y v u Q I rx ry h
 obtain ⟨n,b,hn,⟨p,r,xs,ys,e,rfl,rfl,hq,he,rfl⟩,q⟩:=h
 cases rx;cases ry
 exact eqs_rc I (by omega) (fun x y b u v rx ry q=>eqq_at I (A:=X.A.in1) (by show X.A.units+1+n < cLine;omega) rx ry q) hq he _ _ _ _ ⟨.bl _,H,I,rfl,q⟩
theorem op_neS (hu:X.A.units+64 < cLine):OpR X (compareOp .NotEq) (fun x y H Q=>∃ n b,n<=20/\EqS X.K H n x y b/\Q (.bl (!b)) H):=by
 intro pins s σ H x y v u Q I rx ry h
 obtain ⟨n,b,hn,⟨p,r,xs,ys,e,rfl,rfl,hq,he,rfl⟩,q⟩:=h
 cases rx;cases ry
 exact eqs_ne I (by omega) (fun x y b u v rx ry q=>eqq_at I (A:=X.A.in1) (by show X.A.units+1+n < cLine;omega) rx ry q) hq he _ _ _ _ ⟨.bl _,H,I,rfl,q⟩
end
end L3
namespace L3
open PySem PySem.Spec PyProof.Rows L2 PySem.W
section
variable {M:Model} {A:Around} {E:Value->Shared->Prop} {s:Shared}
end
section
variable {prog:Program} {w:World} {A:Around} {E:Value->Shared->Prop} {s:Shared} {K:PySem.W.Frag} {x D:Addr} {ox:Obj}
end
end L3
namespace L3
open PySem PySem.Spec PyProof.Rows L2
open PySem.W in
section
variable {X:Cx}
end
section
variable {X:Cx} {K:PySem.W.Frag}
theorem ix_tupK (hK:X.K=K):IxR X (rIxT K):=by subst hK;exact ix_tup
theorem call_len_seqK (hK:X.K=K):CallR X (.builtin "len") (fun xs H Q=>∃ p ys,xs=[.ref p]/\(SqL K H p ys\/SqT K H p ys)/\Q (.int ys.length) H):=by subst hK;exact call_len_seq
end
theorem Hits.of {K:PySem.W.Frag} {C D:Addr} (vC:VEx K C) (vD:VEx K D) (m:PySem.W.mroIn K C (.ref D)=some true):Hits K C D:=by
 refine ⟨vC,vD,fun h X bm xc=>?_⟩
 obtain ⟨⟨nm,q,N,bs,hd,sn,sub,ab,col,dd,k0,k1,k2,k3,k5,ni,hC⟩,_⟩:=xc
 unfold PySem.W.mroIn PySem.W.clsIn at m
 split at m
 ·rename_i c' d' cd' sl' ho
  have z:=(X _ _ ho).symm.trans hC
  cases z
  dsimp only [Option.bind_some] at m
  split at m
  ·cases m
  ·exact Option.some.inj m
 ·cases m
end L3
namespace Vm
open PySem PySem.Spec PyProof.Rows L2 L3
theorem cut_any (ns:List Int) (lo hi:Option Int):∃ ms:List Int,cutV (ns.map V.int) lo hi=ms.map V.int/\ms.length<=ns.length/\∀ m ∈ ms,m ∈ ns:=by
 unfold cutV
 refine ⟨(ns.drop (HT.sIx (ns.map V.int).length 0 lo)).take (HT.sIx (ns.map V.int).length (ns.map V.int).length hi - HT.sIx (ns.map V.int).length 0 lo),?_,?_,fun m hm=>List.mem_of_mem_drop (List.mem_of_mem_take hm)⟩
 ·rw [List.map_take,List.map_drop]
 ·rw [List.length_take,List.length_drop];omega
end Vm
namespace L3
open PySem PySem.Spec PyProof.Rows L2
section
variable {X:Cx}
end
end L3
namespace Vm
open PySem PySem.Spec PyProof.Rows L2 L3 PySem.NumText
end Vm
namespace HT
open PySem PySem.Spec PyProof.Rows
section
variable {prog:Program} {w:World} {A:Around} {E:Value->Shared->Prop} {s:Shared}
theorem cut_whole {t sl:Addr} {items:Array Value} {vl vu:Value} {lo hi:Option Int} {Q:Value->Shared->Prop} (ht:IsTup s.heap t items) (hs:s.heap.IsSliceOf sl vl vu .none) (pl:IsPart vl lo) (pu:IsPart vu hi)
  (hw:sIx items.size 0 lo=0/\sIx items.size items.size hi=items.size) (h:Q (.ref t) s):wpAny (model prog w) A (getItem (.ref t) (.ref sl)) Q E s:=by
 obtain ⟨os,hos,hcs,hds⟩:=id hs
 have hTs:s.TypeIs (.ref sl) "slice" := ⟨os,hos,hcs⟩
 unfold getItem
 try with_reducible refine wpAny_holding ?_
 first | refine wpAny_bind (wpAny_pure ?_) | skip
 refine wpAny_bind (wpAny_sequenceKey ht.typeIs (by decide) ?_)
 refine wpAny_bind (wpAny_callSpecial?_slot (name:=Str.ofString "__getitem__") ht.typeIs PyProof.Rows.slot_tuple_getitem
  (wpAny_call_entry PyProof.Rows.slot_tuple_getitem ht.typeIs entry_tuple_getitem ?_ (args_tuple_getitem _ _)))
 show wpAny _ _ (Builtin.Tuple.tupleItemsOf (.ref t) >>= _) _ _ s
 refine wpAny_bind (tupleItemsOf_ ht ?_)
 refine wpAny_bind (wpAny_typeOf hTs ?_)
 rw [if_pos (by decide)]
 refine wpAny_bind (sliceApplied_gen hs pl pu ?_)
 have hyes:(((sIx items.size 0 lo:Nat):Int) == 0 && (1:Int) == 1 && (sIx items.size items.size hi - sIx items.size 0 lo) == items.size)=true:=by
  rw [hw.1,hw.2];simp
 show wpAny _ _ (if (((sIx items.size 0 lo:Nat):Int) == 0 && (1:Int) == 1 && (sIx items.size items.size hi - sIx items.size 0 lo) == items.size)=true then _ else _) _ _ s
 rw [if_pos hyes]
 unfold Builtin.Tuple.tupleIsExact
 refine wpAny_bind (wpAny_bind (wpAny_typeOf ht.typeIs (wpAny_pure ?_)))
 rw [if_pos (by decide)]
 first
  | exact wpAny_bind (wpAny_rule (wpAny_pure ⟨_,rfl,wpAny_pure h⟩))
  | exact wpAny_bind (wpAny_rule (wpAny_bind (wpAny_pure (wpAny_pure ⟨_,rfl,wpAny_pure h⟩))))
  | exact wpAny_bind (wpAny_bind (wpAny_rule (wpAny_pure (wpAny_pure ⟨_,rfl,wpAny_pure h⟩))))
end
end HT
namespace L3
open PySem PySem.Spec PyProof.Rows L2
section
variable {X:Cx}
def rSlTA (K:PySem.W.Frag):V->Option Int->Option Int->Hp->VK->Prop:=fun x lo hi H Q=>∃ (a:Addr) (xs:List V),x=.ref a/\SqT K H a xs ∧
 ((HT.sIx xs.length 0 lo=0/\HT.sIx xs.length xs.length hi=xs.length)->Q (.ref a) H)/\(¬ (HT.sIx xs.length 0 lo=0/\HT.sIx xs.length xs.length hi=xs.length)->∀ p,H p=none->Q (.ref p) (upd H p (.tup (cutV xs lo hi))))
theorem sl_tupA:SlR X (rSlTA X.K):=by
 intro pins s σ H x v vl vu lo hi sl Q I rx hs pl pu h
 obtain ⟨a,xs,rfl,hx,q1,q2⟩:=h
 by_cases hw:HT.sIx xs.length 0 lo=0/\HT.sIx xs.length xs.length hi=xs.length
 ·cases rx
  obtain ⟨its,r,ht,hz⟩:=I.tuple hx
  have hlen:its.toArray.size=xs.length:=by rw [List.size_toArray];exact r.length.symm
  refine ⟨"tuple",_,PyProof.Rows.slot_tuple_getitem.lookup,ht.typeIs,?_⟩
  exact HT.cut_whole ht hs pl pu (by rw [hlen];exact hw) ⟨.ref a,H,I,rfl,q1 hw⟩
 ·exact sl_tup pins s σ H _ v vl vu lo hi sl Q I rx hs pl pu ⟨a,xs,rfl,hx,hw,q2 hw⟩
theorem extend_tup (l b:Addr) (its its2:Array Value) (n n2:Nat) (d2:Option Addr) (sl2:Array (Option Value)) (h0:¬ (!its.isEmpty && Builtin.List.listTooLong (its.size+its2.size))=true) (h1:its.size<=sizeLine) (h2:its.size+its2.size<=sizeLine+1) :
  Meets (Builtin.«list.extend» ⟨[.ref l,.ref b],[]⟩) (fun _ R s=>(s.heap.get? l=some { cls:=.type "list",data:=.seq its n }/\s.heap.get? b=some ⟨.type "tuple",d2,.seq its2 n2,sl2⟩)/\R (.ok (.ret Value.none)) { s with heap:=s.heap.update l (Obj.mapSeq fun x=>x++its2) }):=
 .of_wp fun prog w A R s h=>by
  obtain ⟨hp,g,d,tk,os⟩:=s
  obtain ⟨⟨hl,hb⟩,h⟩:=h
  have e1:=AutoSeq1.idx_int
  have e2:=AutoSeq1.sub_tuple_tuple
  have e3:=AutoSeq1.sub_list_list
  have e4:=AutoSeq1.sub_tuple_list
  have e5:=AutoSeq1.sub_list_tuple
  have hz:(its++its2).size<=sizeLine+1:=by rw [Array.size_append];exact h2
  wp_walk using (wpAny_updateSeq hl rfl (hz:=h1) (_hz':=hz)),AutoSeq1.wpAny_loadPart' hl,AutoSeq1.wpAny_loadPart' hb
  exact ⟨_,rfl,h⟩
def rExtT (K:PySem.W.Frag):V->List V->Hp->VK->Prop:=fun x vs H Q=>∃ (l b:Addr) (xs zs:List V),x=.ref l/\vs=[.ref b]/\H l=some (.lst xs)/\SqT K H b zs/\xs.length+zs.length<=sizeLine/\Q .non (upd H l (.lst (xs++zs)))
theorem mt_extendT:MtM X "list.extend" (rExtT X.K):=by
 intro pins s σ H x vs v us Q I rx rv h
 obtain ⟨l,b,xs,zs,rfl,rfl,hH,hB,hz,q⟩:=h
 cases rx
 obtain ⟨u,rfl,ru⟩:=rv.one
 cases ru
 obtain ⟨z,its,n,r,hl,e⟩:=I.lstM hH
 obtain ⟨its2,r2,⟨o,h1,h2,n2,h3⟩,_⟩:=I.tuple hB
 obtain ⟨c,dd,dt,sl⟩:=o
 dsimp only at h2 h3
 subst h2 h3
 have l2:=r2.length
 have hsz:its.toArray.size+its2.toArray.size<=sizeLine:=by rw [List.size_toArray,List.size_toArray];omega
 have hlong:¬ (!its.toArray.isEmpty && Builtin.List.listTooLong (its.toArray.size+its2.toArray.size))=true:=by
  rw [notLongL hsz,Bool.and_false]
  exact Bool.false_ne_true
 refine call_meets PySem.F.slot_list_extend ⟨_,e,rfl⟩ PySem.F.entry_list_extend (PySem.F.args_list_extend_2 _ _) (extend_tup l b its.toArray its2.toArray n n2 dd sl hlong (by rw [List.size_toArray];omega) (by omega)) ⟨⟨e,h1⟩,?_⟩
 refine ⟨.non,_,I.lset (its':=its++its2) hH e (by simp) (r.append r2) ?_,rfl,q⟩
 rw [List.length_append]
 omega
end
end L3
namespace Vm
open PySem PySem.Spec PyProof.Rows L2 L3
theorem iteK {c A B:Prop} [Decidable c] (h:¬ c) (hb:B):if decide c=true then A else B:=by rw [decide_eq_false h];exact hb
theorem iteY {c A B:Prop} [Decidable c] (h:c) (ha:A):if decide c=true then A else B:=by rw [decide_eq_true h];exact ha
inductive Sk where
 | keep | lose | twice | swap | turn (w:Str) | add (w:Str) | skip (m:Nat)
def stepV:Sk->List V
 | .keep=>[.str (Str.ofString "keep")]
 | .lose=>[.str (Str.ofString "lose")]
 | .twice=>[.str (Str.ofString "twice")]
 | .swap=>[.str (Str.ofString "swap")]
 | .turn w=>[.str (Str.ofString "turn"),.str w]
 | .add w=>[.str (Str.ofString "add"),.str w]
 | .skip m=>[.str (Str.ofString "skip"),.int (m:Nat)]
def okS:Sk->Prop
 | .skip m=>1<=m/\m<=1000
 | .turn w=>Good w
 | .add w=>Good w
 | _=>True
def skipB (es:List Str) (d m:Nat):Bool:=decide (1<=d/\d+m<=es.length) && decide (es[d+m - 1]?=es[d - 1]?)
def fitsB (es:List Str) (d:Nat) (last:Option Str):Sk->Bool
 | .keep=>decide (d < es.length)
 | .lose=>decide (d < es.length)
 | .twice=>last.isSome
 | .swap=>decide (d+1 < es.length) && !decide (es[d]?=es[d+1]?)
 | .turn w=>decide (d < es.length) && !decide (es[d]?=some w)
 | .add _=>true
 | .skip m=>skipB es d m
def wd:Sk->Nat
 | .add _=>0
 | .twice=>0
 | .swap=>2
 | .skip m=>m
 | _=>1
def gt (es:List Str) (d:Nat):Str:=(es[d]?).getD (Str.ofString "")
def ww (es:List Str) (d:Nat) (last:Option Str):Sk->List Str
 | .lose=>[]
 | .skip _=>[]
 | .turn w=>[w]
 | .add w=>[w]
 | .twice=>last.toList
 | .swap=>[gt es (d+1),gt es d]
 | .keep=>[gt es d]
def after (es:List Str) (d:Nat) (last:Option Str) (st:Sk):Option (Nat × List Str):=if fitsB es d last st=true then some (d+wd st,ww es d last st) else none
def optS:Option Str->V
 | none=>.non
 | some z=>.str z
theorem gt_of {es:List Str} {d:Nat} (h:d < es.length):es[d]?=some (gt es d):=by
 unfold gt
 rw [List.getElem?_eq_getElem h];rfl
theorem at_w {es:List Str} {d:Nat} (h:d < es.length):atI (es.map V.str) (d:Int)=some (.str (gt es d)):=atI_nat (by rw [List.getElem?_map,gt_of h];rfl)
theorem str_dec (a b:Str):decide (V.str a=V.str b)=decide (a=b):=decide_eq_decide.mpr ⟨fun e=>by injection e,fun e=>by rw [e]⟩
theorem some_dec {es:List Str} {d:Nat} (h:d < es.length) (b:Str):decide (es[d]?=some b)=decide (gt es d=b):=by
 rw [gt_of h]
 exact decide_eq_decide.mpr ⟨fun e=>Option.some.inj e,fun e=>by rw [e]⟩
theorem gt_mem {es:List Str} {d:Nat} (h:d < es.length):gt es d ∈ es:=List.mem_of_getElem? (gt_of h)
end Vm
namespace L3
open PySem PySem.Spec PyProof.Rows L2
structure NB (X:Cx) (pins:List (Addr × Obj)) (H:Hp) (b:Addr):Prop where
 s0:X.s₀.heap.get? b=none
 loc:b ≠ X.env.locals
 cel:∀ x c,X.env.cells.lookup x=some c->c ≠ b
 pin:∀ p ∈ X.pn++pins,p.1 ≠ b
 hp:H b=none
section
variable {X:Cx} {pins:List (Addr × Obj)} {σ:L2.St} {H H':Hp} {s:Shared} {b:Addr}
theorem nb_of (I:Inv X pins σ H s) (hex:X.ex=[]) (hb:s.heap.get? b=none):NB X pins H b:=by
 refine ⟨old_none I hex hb,fun z=>?_,fun y c' ec z=>?_,fun q hq z=>?_,hok_none I.hok hb⟩
 ·obtain ⟨m,⟨o,_,_,ho,_⟩,_⟩:=I.loc
  rw [<-z,hb] at ho;cases ho
 ·obtain ⟨v,o,ho,_⟩:=I.cell y c' ec
  rw [z,hb] at ho;cases ho
 ·have:=(I.pin q hq).1
  rw [z,hb] at this;cases this
theorem NB.to (n:NB X pins H b) (h:H' b=none):NB X pins H' b:=⟨n.s0,n.loc,n.cel,n.pin,h⟩
theorem inv_nb {h':Heap} {t':Nat} {S:List Addr} (I:Inv X pins σ H s) (k:Kpt S (frs X.stack) s.heap h') (n:∀ b ∈ S,NB X pins H b):Inv X pins σ H { s with heap:=h',toks:=t' }:=
 inv_kpt I k (fun b hb=>(n b hb).s0) (fun b hb=>(n b hb).loc) (fun b hb=>(n b hb).cel) (fun b hb=>(n b hb).pin) fun b hb=>(n b hb).hp
end
def FlyN (X:Cx) (E:XK) (e:Value) (s:Shared):Prop:=∃ (pins:List (Addr × Obj)) (σ:L2.St) (H:Hp) (ea T C:Addr),e=.ref ea/\Inv X pins σ H s/\NB X pins H ea/\NB X pins H T/\E (.ref C) none H/\Exc s.heap ea T C (rawInt X.env.locals)
def Fly (X:Cx) (E:XK) (e:Value) (s:Shared):Prop:=∃ (pins:List (Addr × Obj)) (σ:L2.St) (H:Hp) (ea C:Addr),e=.ref ea/\Inv X pins σ H s/\NB X pins H ea/\E (.ref C) none H ∧
 ((∃ vs,s.heap.get? ea=some { cls:=.ref C,data:=.fields vs }/\vs[1]?=some .none)\/∃ (T:Addr) (fl:Value),Exc s.heap ea T C fl/\NB X pins H T/\(fl=.none\/fl=rawInt X.env.locals))
section
variable {X:Cx} {E:XK} {e:Value} {s:Shared}
theorem note_same {M:Model} {A:Around} {E':Value->Shared->Prop} {env:Env} {L ea T C:Addr} {Q:Unit->Shared->Prop} (hf:env.frame=some L) (x:Exc s.heap ea T C (rawInt L)) (h:Q () s):wpAny M A (noteFrame (.ref ea) env) Q E' s:=by
 obtain ⟨⟨vs,he,h1⟩,⟨oT,ts,hT,dT,h3⟩,ne⟩:=x
 unfold noteFrame
 simp only [hf]
 refine wpAny_bind (wpAny_field he rfl h1 ?_)
 rw [if_pos (show (Value.ref T != Value.none)=true by simp)]
 refine wpAny_bind (wpAny_field hT dT h3 ?_)
 rw [if_pos (beq_self_eq_true _)]
 exact wpAny_pure h
theorem fly_note {M:Model} {E':Value->Shared->Prop} {Q:Unit->Shared->Prop} (hst:X.stack=X.env :: X.outer/\X.env.frame=some X.env.locals) (hex:X.ex=[]) (F:Fly X E e s) (hQ:∀ s',FlyN X E e s'->Q () s'):wpAny M X.A (noteFrame e X.env) Q E' s:=by
 obtain ⟨pins,σ,H,ea,C,rfl,I,n1,hE,hx⟩:=F
 have fr:=I.ok.frames
 have stk:=I.stack
 rw [hst.1] at fr stk
 rcases hx with ⟨vs,ho,h1⟩ | ⟨T0,fl,x,n2,hfl⟩
 ·refine note_new (base:=X.base) (outer:=X.outer) fr stk hst.2 ho h1 fun k1 T hT x1 kp1=>hQ _ ?_
  have nT:=nb_of I hex (size_none hT)
  have kp:Kpt [ea] (frs X.stack) s.heap k1:=by rw [hst.1];exact kp1
  exact ⟨pins,σ,H,ea,T,C,rfl,inv_nb (t':=s.toks) I kp (fun b hb=>by rw [List.mem_singleton.mp hb];exact n1),n1,nT,hE,x1⟩
 ·rcases hfl with rfl | rfl
  ·refine note_on (base:=X.base) (outer:=X.outer) fr stk hst.2 x fun k1 T hT x1 kp1=>hQ _ ?_
   have nT:=nb_of I hex (size_none hT)
   have kp:Kpt [ea,T0] (frs X.stack) s.heap k1:=by rw [hst.1];exact kp1
   exact ⟨pins,σ,H,ea,T,C,rfl,inv_nb (t':=s.toks) I kp (fun b hb=>by
    rcases List.mem_cons.mp hb with z | z
    ·rw [z];exact n1
    ·rw [List.mem_singleton.mp z];exact n2),n1,nT,hE,x1⟩
  ·exact note_same hst.2 x (hQ s ⟨pins,σ,H,ea,T0,C,rfl,I,n1,n2,hE,x⟩)
theorem fly_set {M:Model} {A:Around} {E':Value->Shared->Prop} {to:Option Addr} {Q:Unit->Shared->Prop} (F:FlyN X E e s)
  (hQ:∀ s' pins σ H ea T C,e=.ref ea->Inv X pins σ H s'->NB X pins H ea->NB X pins H T->E (.ref C) none H->Exc s'.heap ea T C (to.elim Value.none fun f=>rawInt f)->Q () s'):wpAny M A (setFlight e to) Q E' s:=by
 obtain ⟨pins,σ,H,ea,T,C,rfl,I,n1,n2,hE,x⟩:=F
 refine flight_set (to:=to) x fun k2 x2 oth _=>hQ _ pins σ H ea T C rfl ?_ n1 n2 hE x2
 refine inv_nb (t':=s.toks) (S:=[T]) I ⟨fun b o eb nb _=>(oth b fun z=>nb (by rw [z];simp)).trans eb,fun b o eb nb _=>⟨o.slots,(oth b fun z=>nb (by rw [z];simp)).trans eb⟩⟩ fun b hb=>by
  rw [List.mem_singleton.mp hb];exact n2
theorem passes_fly (hst:X.stack=X.env :: X.outer/\X.env.frame=some X.env.locals) (hex:X.ex=[]):PassesOwn (model X.prog X.w) X.A X.env (Fly X E):=fun e s' F=>by
 show wpAny _ X.A (noteFrame e X.env) _ _ s'
 refine fly_note hst hex F fun s'' N=>?_
 have N':=N
 obtain ⟨pins,σ,H,ea,T,C,rfl,I,n1,n2,hE,⟨vs,he,h1⟩,_⟩:=N'
 unfold cameBackBy
 refine wpAny_bind (wpAny_field he rfl h1 ?_)
 rw [if_neg (show ¬ (Value.ref T == Value.none)=true by simp)]
 first
  | refine fly_set (to:=X.env.frame) N fun s3 pins σ H ea T C e1 I3 m1 m2 hE3 x3=>?_
  | refine wpAny_bind (wpAny_pure (fly_set (to:=X.env.frame) N fun s3 pins σ H ea T C e1 I3 m1 m2 hE3 x3=>?_))
 rw [hst.2] at x3
 exact ⟨pins,σ,H,ea,C,e1,I3,m1,hE3,.inr ⟨T,_,x3,m2,.inr rfl⟩⟩
theorem lands_fly (hex:X.ex=[]):Lands (X.wish (Fly X E)) E:=by
 intro pins σ H s h' ea C vs I kp new ho h1 hE
 have I0:=I.unwish
 exact ⟨pins,σ,H,ea,C,rfl,I0.kept (t':=s.toks) kp,nb_of I0 hex new,hE,.inl ⟨vs,ho,h1⟩⟩
end
section
variable {P:Program} {w:World} {K:PySem.W.Frag} {mg:Str->Option Value} {base:Heap} {N:List Str} {qual:Str} {scope:Scope} {f:Addr} {cd:Value} {A:Around} {outer:List Env} {s0:Shared} {H0:Hp} {E:XK}
abbrev cxF (P:Program) (w:World) (K:PySem.W.Frag) (mg:Str->Option Value) (base:Heap) (N:List Str) (qual:Str) (scope:Scope) (f:Addr) (cd:Value) (A:Around) (outer:List Env) (s0:Shared) (H0:Hp) (E:XK):Cx:=
 (cxOf (CXv P w) P w K mg base N qual scope f cd A outer s0 H0 E).wish (Fly (cxOf (CXv P w) P w K mg base N qual scope f cd A outer s0 H0 E) E)
theorem passesF:Passes (CXv P w) (cxF P w K mg base N qual scope f cd A outer s0 H0 E) E:=by
 intro pins σ H s e s' I hx
 obtain ⟨ea,T0,C,H',rfl,x,n1,n2,t1,t2,os,bare,un,hok,hE⟩:=hx
 have I0:=I.unwish
 have I':Inv (cxOf (CXv P w) P w K mg base N qual scope f cd A outer s0 H0 E) pins σ H' s':=I0.call' os un hok bare fun b z=>absurd z (by simp)
 exact ⟨pins,σ,H',ea,C,rfl,I',(nb_of I0 rfl n1).to t1,hE,.inr ⟨T0,.none,x,(nb_of I0 rfl n2).to t2,.inl rfl⟩⟩
theorem fly_leave {e:Value} {s:Shared} (F:Fly (cxOf (CXv P w) P w K mg base N qual scope f cd A outer s0 H0 E) E e s):(cxOf (CXv P w) P w K mg base N qual scope f cd A outer s0 H0 E).xe e s:=by
 show wpAny (model P w) (A.deeper (envOfC qual scope s0.heap.objs.size f cd)) (leaving (envOfC qual scope s0.heap.objs.size f cd) e) _ _ s
 unfold leaving
 refine wpAny_bind (fly_note ⟨rfl,rfl⟩ rfl F fun s'' Nn=>?_)
 refine fly_set (to:=none) Nn fun s3 pins σ H ea T C e1 I3 m1 m2 hE3 x3=>?_
 exact ⟨ea,T,C,H,e1,x3,m1.s0,m2.s0,m1.hp,m2.hp,I3.os,I3.bare,I3.base,I3.hok,hE3⟩
theorem PSs.fly {sts:List Stmt} {t:TS} (h:PSs (cxF P w K mg base N qual scope f cd A outer s0 H0 E) sts t):PSs (cxOf (CXv P w) P w K mg base N qual scope f cd A outer s0 H0 E) sts t:=fun pins s σ H D I hw=>
 wpAny_mono (h pins s σ H D (I.wish _) hw) (fun _ _ q=>q.unwish) fun _ _ z=>fly_leave z
theorem passF:PassesOwn (model P w) (cxF P w K mg base N qual scope f cd A outer s0 H0 E).A (cxF P w K mg base N qual scope f cd A outer s0 H0 E).env (cxF P w K mg base N qual scope f cd A outer s0 H0 E).xe:=passes_fly (X:=cxOf (CXv P w) P w K mg base N qual scope f cd A outer s0 H0 E) ⟨rfl,rfl⟩ rfl
theorem landsF:Lands (cxF P w K mg base N qual scope f cd A outer s0 H0 E) E:=lands_fly rfl
end
end L3
namespace L3
open PySem PySem.Spec PyProof.Rows L2
section
variable {X:Cx} {k:Nat} {f:Addr} {fd:FuncData} {ps:List Str} {sp:Sp} {fx x c:Str} {e:Expr} {es:List Expr} {ta:TA} {p pos:Pos}
end
end L3
namespace Vm
open PySem PySem.Spec PyProof.Rows L2 L3
abbrev WS:=Nat × List Str × List Nat
def walk1 (es:List Str) (x:WS) (st:Sk):Option WS:=(after es x.1 x.2.1.getLast? st).map fun y=>(y.1,x.2.1++y.2,x.2.2++[x.1])
def walk (es:List Str):List Sk->WS->Option WS
 | [],x=>some x
 | st :: r,x=>(walk1 es x st).bind (walk es r)
theorem walk_append (es:List Str):∀ (a b:List Sk) (x:WS),walk es (a++b) x=(walk es a x).bind (walk es b)
 | [],b,x=>rfl
 | st :: a,b,x=>by
  show (walk1 es x st).bind (walk es (a++b))=((walk1 es x st).bind (walk es a)).bind (walk es b)
  cases walk1 es x st with
  | none=>rfl
  | some y=>exact walk_append es a b y
theorem walk_one (es:List Str) (st:Sk) (x:WS):walk es [st] x=walk1 es x st:=by
 show (walk1 es x st).bind (walk es [])=_
 cases walk1 es x st <;> rfl
def made (es:List Str) (sts:List Sk):Option (List Str × List Nat):=(walk es sts (0,[],[])).bind fun x=>if x.1 < es.length\/40 < x.2.1.length then none else some (x.2.1,x.2.2)
theorem after_le {es:List Str} {d:Nat} {last:Option Str} {st:Sk} {y:Nat × List Str} (h:after es d last st=some y) (hd:d<=es.length):y.1<=es.length:=by
 unfold after at h
 split at h
 ·rename_i hf
  cases h
  show d+wd st<=es.length
  cases st with
  | keep=>have:=of_decide_eq_true hf;show d+1<=_;omega
  | lose=>have:=of_decide_eq_true hf;show d+1<=_;omega
  | twice=>exact hd
  | add _=>exact hd
  | swap=>have:=of_decide_eq_true (Bool.and_eq_true_iff.mp hf).1;show d+2<=_;omega
  | turn _=>have:=of_decide_eq_true (Bool.and_eq_true_iff.mp hf).1;show d+1<=_;omega
  | skip m=>
   have h2:(decide (1<=d/\d+m<=es.length) && decide (es[d+m - 1]?=es[d - 1]?))=true:=hf
   have:=of_decide_eq_true (Bool.and_eq_true_iff.mp h2).1
   exact this.2
 ·cases h
theorem ww_len (es:List Str) (d:Nat) (last:Option Str) (st:Sk):(ww es d last st).length<=2:=by
 cases st with
 | twice=>cases last <;> simp [ww]
 | _=>simp [ww]
theorem after_len {es:List Str} {d:Nat} {last:Option Str} {st:Sk} {y:Nat × List Str} (h:after es d last st=some y):y.2.length<=2:=by
 unfold after at h
 split at h
 ·cases h;exact ww_len es d last st
 ·cases h
theorem walk_turn {es:List Str} {sts:List Sk} {i:Nat} {st:Sk} {d:Nat} {cp:List Str} {pl:List Nat} (hi:sts[i]?=some st) (hw:walk es (sts.take i) (0,[],[])=some (d,cp,pl)) :
  walk es (sts.take (i+1)) (0,[],[])=(after es d cp.getLast? st).map fun y=>(y.1,cp++y.2,pl++[d]):=by
 have hl:=(List.getElem?_eq_some_iff.mp hi).1
 rw [List.take_succ_eq_append_getElem hl,(List.getElem?_eq_some_iff.mp hi).2,walk_append,hw]
 exact walk_one es st _
theorem walk_stop {es:List Str} {sts:List Sk} {i:Nat} (h:walk es (sts.take i) (0,[],[])=none):made es sts=none:=by
 unfold made
 have e:sts=sts.take i++sts.drop i:=(List.take_append_drop i sts).symm
 rw [e,walk_append,h]
 rfl
structure StepsAt (K:PySem.W.Frag) (H:Hp) (ts:List Addr) (sts:List Sk):Prop where
 len:ts.length=sts.length
 item:∀ (i:Nat) (t:Addr) (st:Sk),ts[i]?=some t->sts[i]?=some st->SqT K H t (stepV st)/\okS st
theorem sameT {K:PySem.W.Frag} {H H':Hp} {a:Addr} {xs:List V} (S:Same H H') (h:SqT K H a xs):SqT K H' a xs:=by
 rcases h with (h | ⟨o,h⟩) | h
 ·exact .inl (.inl (S _ _ h))
 ·exact .inl (.inr ⟨o,S _ _ h⟩)
 ·exact .inr h
theorem StepsAt.mono {K:PySem.W.Frag} {H H':Hp} {ts:List Addr} {sts:List Sk} (S:Same H H') (h:StepsAt K H ts sts):StepsAt K H' ts sts:=
 ⟨h.len,fun i t st e1 e2=>⟨sameT S (h.item i t st e1 e2).1,(h.item i t st e1 e2).2⟩⟩
theorem StepsAt.nil {K:PySem.W.Frag} {H:Hp}:StepsAt K H [] []:=⟨rfl,fun i t st e _=>by simp at e⟩
theorem StepsAt.snoc {K:PySem.W.Frag} {H:Hp} {ts:List Addr} {sts:List Sk} {t:Addr} {st:Sk} (h:StepsAt K H ts sts) (ht:SqT K H t (stepV st)) (ho:okS st):StepsAt K H (ts++[t]) (sts++[st]):=by
 refine ⟨by rw [List.length_append,List.length_append,h.len];rfl,fun i t' st' e1 e2=>?_⟩
 by_cases hi:i < ts.length
 ·rw [List.getElem?_append_left hi] at e1
  rw [List.getElem?_append_left (by rw [<-h.len];exact hi)] at e2
  exact h.item i t' st' e1 e2
 ·rw [List.getElem?_append_right (by omega)] at e1
  rw [List.getElem?_append_right (by rw [<-h.len];omega),<-h.len] at e2
  by_cases h0:i - ts.length=0
  ·rw [h0] at e1 e2
   cases e1;cases e2
   exact ⟨ht,ho⟩
  ·obtain ⟨j,hj⟩:∃ j,i - ts.length=j+1:=⟨i - ts.length - 1,by omega⟩
   rw [hj] at e1
   simp at e1
theorem ref_at {ts:List Addr} {i:Nat} {y:V} (hi:(ts.map V.ref)[i]?=some y):∃ t,ts[i]?=some t/\y=.ref t:=by
 rw [List.getElem?_map] at hi
 cases e:ts[i]? with
 | none=>rw [e] at hi;cases hi
 | some t=>rw [e] at hi;exact ⟨t,rfl,(Option.some.inj hi).symm⟩
theorem last_at {cp:List Str} (h:0 < cp.length):∃ l,cp.getLast?=some l/\atI (cp.map V.str) (-1)=some (.str l):=by
 obtain ⟨r,z,rfl⟩:∃ r z,cp=r++[z]:=⟨cp.dropLast,cp.getLast (by intro e;rw [e] at h;exact absurd h (by decide)),(List.dropLast_concat_getLast _).symm⟩
 refine ⟨z,by simp,?_⟩
 rw [List.map_append]
 exact atI_last _ _
end Vm
namespace L3
open PySem PySem.Spec PyProof.Rows L2
section
variable {prog:Program} {w:World}
structure Cursor (prog:Program) (w:World) (it t:Addr) (xs:Array Value) (St:Nat->Heap->Prop):Prop where
 stay:∀ i (h h':Heap),St i h->(∀ o,h.get? it=some o->h'.get? it=some o)->(∀ o,h.get? t=some o->h'.get? t=some o)->St i h'
 draw:∀ (A:Around) (E:Value->Shared->Prop) (s:Shared) (Q:Value->Shared->Prop) (i:Nat) (x:Value),St i s.heap->xs[i]?=some x->(∀ h',St (i+1) h'->Heap.SameBut it s.heap h'->Q x { s with heap:=h' })->wpAny (model prog w) A (Builtin.SmallTypes.nextOf (.ref it)) Q E s
 over:∀ (A:Around) (E:Value->Shared->Prop) (s:Shared) (Q:Value->Shared->Prop) (i:Nat),A.handled=none->St i s.heap->xs[i]?=none →
  (∀ h' e,Heap.ExtBut it s.heap h'->(∃ o,h'.get? e=some o/\o.cls=.type "StopIteration")->E (.ref e) { s with heap:=h' })->wpAny (model prog w) A (Builtin.SmallTypes.nextOf (.ref it)) Q E s
 lt:∀ i h,St i h->∃ o,h.get? it=some o/\∀ v,o.data ≠ .cell v
theorem cursor_tuple (it t:Addr) (xs:Array Value) (hne:t ≠ it):Cursor prog w it t xs (fun i h=>h.IsTupleIter it t i/\h.IsTuple t xs) where
 stay:=fun i h h' st k1 k2=>⟨st.1.at k1,by obtain ⟨o,e,r⟩:=st.2;exact ⟨o,k2 o e,r⟩⟩
 lt:=fun i h st=>by obtain ⟨o,e,_,d⟩:=st.1;exact ⟨o,e,fun v z=>by rw [d] at z;cases z⟩
 draw:=by
  intro A E s Q i x st hx hQ
  obtain ⟨hit,ht⟩:=st
  obtain ⟨o,ho,hc,hd⟩:=id hit
  obtain ⟨ot,hot,ct,nt,dt⟩:=id ht
  unfold Builtin.SmallTypes.nextOf
  refine wpAny_bind (wpAny_callSpecial?_slot (name:=Str.ofString "__next__") hit.typeIs PySem.F.slot_tuple_iterator_next (wpAny_call_entry PySem.F.slot_tuple_iterator_next hit.typeIs PySem.F.entry_tuple_iterator_next ?_ (PySem.F.args_tuple_iterator_next_1 _)))
  refine (show wpAny _ _ (field (.ref it) 0 >>= _) _ _ s from wpAny_bind (wpAny_field ho hd (x:=.ref t) rfl ?_))
  refine (show wpAny _ _ (if (Value.ref t == Value.none)=true then _ else _) _ _ s from ?_);rw [if_neg (show ¬ ((Value.ref t == Value.none)=true) by simp)]
  refine (show wpAny _ _ (field (.ref it) 1 >>= _) _ _ s from wpAny_bind (wpAny_field ho hd (x:=.int i 0) rfl ?_))
  refine (show wpAny _ _ (seqItems? (.ref t) >>= _) _ _ s from wpAny_bind (wpAny_seqItems hot dt ?_));simp only [Int.toNat_natCast,hx]
  refine wpAny_bind (wpAny_setField ho hd (by simp) (wpAny_pure ⟨x,rfl,wpAny_pure (hQ _ ⟨?_,?_⟩ (Heap.SameBut.update ..))⟩))
  ·refine ⟨_,Heap.get?_update_self _ ho (Obj.isFreed_of_fields (Obj.data_mapFields hd _)),(Obj.cls_mapFields ..).trans hc,?_⟩;rw [Obj.data_mapFields hd];simp [rawInt]
  ·exact ⟨ot,(Heap.get?_update_other _ _ (Ne.symm hne)).trans hot,ct,nt,dt⟩
 over:=by
  intro A E s Q i hh st hx hE
  obtain ⟨hit,ht⟩:=st
  obtain ⟨o,ho,hc,hd⟩:=id hit
  obtain ⟨ot,hot,ct,nt,dt⟩:=id ht
  unfold Builtin.SmallTypes.nextOf
  refine wpAny_bind (wpAny_callSpecial?_slot (name:=Str.ofString "__next__") hit.typeIs PySem.F.slot_tuple_iterator_next (wpAny_call_entry PySem.F.slot_tuple_iterator_next hit.typeIs PySem.F.entry_tuple_iterator_next ?_ (PySem.F.args_tuple_iterator_next_1 _)))
  refine (show wpAny _ _ (field (.ref it) 0 >>= _) _ _ s from wpAny_bind (wpAny_field ho hd (x:=.ref t) rfl ?_))
  refine (show wpAny _ _ (if (Value.ref t == Value.none)=true then _ else _) _ _ s from ?_);rw [if_neg (show ¬ ((Value.ref t == Value.none)=true) by simp)]
  refine (show wpAny _ _ (field (.ref it) 1 >>= _) _ _ s from wpAny_bind (wpAny_field ho hd (x:=.int i 0) rfl ?_))
  refine (show wpAny _ _ (seqItems? (.ref t) >>= _) _ _ s from wpAny_bind (wpAny_seqItems hot dt ?_));simp only [Int.toNat_natCast,hx]
  refine wpAny_bind (wpAny_rule (wpAny_bind (wpAny_setField ho hd (by simp) (wpAny_bind ?_))));simp only [newExc,newTuple]
  refine wpAny_bind (wpAny_newObj_type ?_ (by size_fits));refine wpAny_bind (m:=firstArgMember _ _) (wpAny_of_eq (a:=Value.none) (by first | rfl | (simp only [firstArgMember];rfl)) ?_)
  refine wpAny_newObj_type ?_ (by size_fits);simp only [raiseNew];refine wpAny_bind (wpAny_handled ?_)
  first | rw [show A.in1.handled=none from hh] | rw [hh]
  exact wpAny_bind (wpAny_pure (wpAny_throw (hE _ _ (((Heap.SameBut.update ..).extBut.push _).push _) ⟨_,Heap.get?_push_size _ rfl,rfl⟩)))
structure Apart (z TI TO i1 i2 t1 t2:Addr):Prop where
 a1:TI ≠ z
 a2:TO ≠ z
 a3:i1 ≠ z
 a4:i2 ≠ z
 a5:TI ≠ TO
 a6:TI ≠ i1
 a7:TI ≠ i2
 a8:TO ≠ i1
 a9:TO ≠ i2
 b1:i1 ≠ i2
 b2:t1 ≠ z
 b3:t1 ≠ TO
 b4:t1 ≠ i1
 b5:t1 ≠ i2
 b6:t2 ≠ z
 b7:t2 ≠ TO
 b8:t2 ≠ i1
 b9:t2 ≠ i2
section
variable {A:Around} {E:Value->Shared->Prop} {s:Shared} {z TI TO i1 i2 t1 t2:Addr} {xs ys:Array Value} {S1 S2:Nat->Heap->Prop} {k:Nat}
theorem cur_to {it t c:Addr} {us:Array Value} {S:Nat->Heap->Prop} {i:Nat} {h h':Heap} (C:Cursor prog w it t us S) (st:S i h) (e:Heap.SameBut c h h') (n1:it ≠ c) (n2:t ≠ c):S i h':=
 C.stay i h h' st (fun o q=>e.extBut _ _ n1 q) (fun o q=>e.extBut _ _ n2 q)
theorem zip_draw {x y a b:Value} {Q:Value->Shared->Prop} (D:Apart z TI TO i1 i2 t1 t2) (C1:Cursor prog w i1 t1 xs S1) (C2:Cursor prog w i2 t2 ys S2)
  (hz:IsZip s.heap z TI TO .none) (hTI:IsPair s.heap TI (.ref i1) (.ref i2)) (hTO:IsPair s.heap TO a b) (h1:S1 k s.heap) (h2:S2 k s.heap) (hx:xs[k]?=some x) (hy:ys[k]?=some y)
  (hQ:∀ h',IsZip h' z TI TO (rawInt s.heap.objs.size)->IsPair h' TO x y->S1 (k+1) h'->S2 (k+1) h'->IsPair h' s.heap.objs.size x y->(∀ c o,c ≠ z->c ≠ TO->c ≠ i1->c ≠ i2->s.heap.get? c=some o->h'.get? c=some o)->Q (.ref s.heap.objs.size) { s with heap:=h' }) :
  wpAny (model prog w) A (Builtin.«zip.__next__» ⟨[.ref z],[]⟩) (fun fin s'=>∃ v,fin=.done (.ret v)/\Q v s') E s:=by
 refine (show wpAny _ _ (field (.ref z) 2 >>= _) _ _ _ from wpAny_bind (wpAny_field hz rfl (x:=.bool false) rfl ?_))
 refine (show wpAny _ _ (field (.ref z) 3 >>= _) _ _ _ from wpAny_bind (wpAny_field hz rfl (x:=.ref TI) rfl (wpAny_bind (wpAny_seqItems hTI rfl ?_))))
 refine (show wpAny _ _ (Builtin.SmallTypes.ownedTupleIsFree (.ref z) >>= _) _ _ _ from wpAny_bind ?_);unfold Builtin.SmallTypes.ownedTupleIsFree
 refine wpAny_bind (wpAny_field hz rfl (x:=.none) rfl (wpAny_pure ?_));simp only [if_true]
 refine wpAny_bind (wpAny_rule (wpAny_bind (wpAny_field hz rfl (x:=.ref TO) rfl (wpAny_bind (wpAny_setField_rec hz (by simp) fun g1 q1 e1=>?_)))))
 replace q1:IsZip g1 z TI TO .ellipsis:=q1
 refine wpAny_bind ?_;simp only [List.zipIdx_cons,List.zipIdx_nil,List.forIn_cons,List.forIn_nil]
 -- the first
 refine wpAny_bind (wpAny_bind (wpAny_onRaise ?_));refine (show wpAny _ _ (Builtin.SmallTypes.nextOf (.ref i1) >>= _) _ _ _ from wpAny_bind (C1.draw _ _ _ _ k x (cur_to C1 h1 e1 D.a3 D.b2) hx fun g2 c1 e2=>wpAny_pure ?_))
 have p2:IsPair g2 TO a b:=e2.extBut _ _ D.a8 (e1.extBut _ _ D.a2 hTO)
 refine wpAny_bind (wpAny_seqItems p2 rfl (wpAny_bind (wpAny_updateSeq_pair p2 fun g3 p3 e3=>wpAny_bind (wpAny_letGo (wpAny_pure ?_)))));replace p3:IsPair g3 TO x b:=p3
 -- the second
 have d2:S2 k g3:=cur_to C2 (cur_to C2 (cur_to C2 h2 e1 D.a4 D.b6) e2 D.b1.symm D.b8) e3 D.a9.symm D.b7
 refine wpAny_bind (wpAny_bind (wpAny_onRaise ?_));refine (show wpAny _ _ (Builtin.SmallTypes.nextOf (.ref i2) >>= _) _ _ _ from wpAny_bind (C2.draw _ _ _ _ k y d2 hy fun g4 c2 e4=>wpAny_pure ?_))
 have p4:IsPair g4 TO x b:=e4.extBut _ _ D.a9 p3
 refine wpAny_bind (wpAny_seqItems p4 rfl (wpAny_bind (wpAny_updateSeq_pair p4 fun g5 p5 e5=>wpAny_bind (wpAny_letGo (wpAny_pure (wpAny_pure ?_))))));replace p5:IsPair g5 TO x y:=p5
 -- what is handed out
 refine wpAny_bind (wpAny_seqItems p5 rfl (wpAny_bind (wpAny_newTuple ?_)))
 have sz:g5.objs.size=s.heap.objs.size:=by rw [e5.1,e4.1,e3.1,e2.1,e1.1]
 have q5:IsZip g5 z TI TO .ellipsis:=e5.extBut _ _ D.a2.symm (e4.extBut _ _ D.a4.symm (e3.extBut _ _ D.a2.symm (e2.extBut _ _ D.a3.symm q1)))
 have kp:∀ c o,c ≠ z->c ≠ TO->c ≠ i1->c ≠ i2->s.heap.get? c=some o->g5.get? c=some o:=fun c o n1 n2 n3 n4 q=>e5.extBut _ _ n2 (e4.extBut _ _ n4 (e3.extBut _ _ n2 (e2.extBut _ _ n3 (e1.extBut _ _ n1 q))))
 have d1:S1 (k+1) g5:=cur_to C1 (cur_to C1 (cur_to C1 c1 e3 D.a8.symm D.b3) e4 D.b1 D.b5) e5 D.a8.symm D.b3
 have d3:S2 (k+1) g5:=cur_to C2 c2 e5 D.a9.symm D.b7
 refine (show wpAny _ _ (Builtin.SmallTypes.ownedTupleHandOut (.ref z) (.ref g5.objs.size) >>= _) _ _ _ from wpAny_bind ?_);unfold Builtin.SmallTypes.ownedTupleHandOut
 have q6:IsZip (g5.push { cls:=.type "tuple",data:=.seq #[x,y] }) z TI TO .ellipsis:=Heap.get?_push_of_some _ q5
 refine wpAny_bind (wpAny_setField_rec q6 (by simp) fun g7 q7 e7=>?_);replace q7:IsZip g7 z TI TO (rawInt g5.objs.size):=q7
 refine wpAny_setField_rec q7 (by simp) fun g8 q8 e8=>?_;replace q8:IsZip g8 z TI TO (rawInt g5.objs.size):=q8
 have up:∀ c o,c ≠ z->g5.get? c=some o->g8.get? c=some o:=fun c o n q=>e8.extBut _ _ n (e7.extBut _ _ n (Heap.get?_push_of_some _ q))
 have zl:z < g5.objs.size:=Heap.lt_size q5
 have p8:IsPair g8 g5.objs.size x y:=e8.extBut _ _ (Nat.ne_of_gt zl) (e7.extBut _ _ (Nat.ne_of_gt zl) (Heap.get?_push_size _ rfl))
 rw [sz] at q8 p8
 refine wpAny_pure ⟨_,rfl,?_⟩
 refine (show Q (.ref g5.objs.size) _ from ?_);rw [sz]
 exact hQ g8 q8 (up _ _ D.a2 p5) (C1.stay _ _ _ d1 (fun o q=>up _ o D.a3 q) (fun o q=>up _ o D.b2 q)) (C2.stay _ _ _ d3 (fun o q=>up _ o D.a4 q) (fun o q=>up _ o D.b6 q)) p8 fun c o n1 n2 n3 n4 q=>up c o n1 (kp c o n1 n2 n3 n4 q)
theorem zip_over {a b:Value} {Q:Fin->Shared->Prop} (hh:A.handled=none) (D:Apart z TI TO i1 i2 t1 t2) (C1:Cursor prog w i1 t1 xs S1) (C2:Cursor prog w i2 t2 ys S2)
  (hz:IsZip s.heap z TI TO .none) (hTI:IsPair s.heap TI (.ref i1) (.ref i2)) (hTO:IsPair s.heap TO a b) (h1:S1 k s.heap) (h2:S2 k s.heap) (hend:xs[k]?=none\/ys[k]?=none)
  (hE:∀ h' e,(∀ c o,c ≠ z->c ≠ TO->c ≠ i1->c ≠ i2->s.heap.get? c=some o->h'.get? c=some o)->(∃ o,h'.get? e=some o/\o.cls=.type "StopIteration")->E (.ref e) { s with heap:=h' }) :
  wpAny (model prog w) A (Builtin.«zip.__next__» ⟨[.ref z],[]⟩) Q E s:=by
 refine (show wpAny _ _ (field (.ref z) 2 >>= _) _ _ _ from wpAny_bind (wpAny_field hz rfl (x:=.bool false) rfl ?_))
 refine (show wpAny _ _ (field (.ref z) 3 >>= _) _ _ _ from wpAny_bind (wpAny_field hz rfl (x:=.ref TI) rfl (wpAny_bind (wpAny_seqItems hTI rfl ?_))))
 refine (show wpAny _ _ (Builtin.SmallTypes.ownedTupleIsFree (.ref z) >>= _) _ _ _ from wpAny_bind ?_);unfold Builtin.SmallTypes.ownedTupleIsFree
 refine wpAny_bind (wpAny_field hz rfl (x:=.none) rfl (wpAny_pure ?_));simp only [if_true]
 refine wpAny_bind (wpAny_rule (wpAny_bind (wpAny_field hz rfl (x:=.ref TO) rfl (wpAny_bind (wpAny_setField_rec hz (by simp) fun g1 q1 e1=>?_)))))
 replace q1:IsZip g1 z TI TO .ellipsis:=q1
 refine wpAny_bind ?_;simp only [List.zipIdx_cons,List.zipIdx_nil,List.forIn_cons,List.forIn_nil]
 refine wpAny_bind (wpAny_bind (wpAny_onRaise ?_));refine (show wpAny _ _ (Builtin.SmallTypes.nextOf (.ref i1) >>= _) _ _ _ from ?_)
 cases hx:xs[k]? with
 | none=>
  refine wpAny_bind (C1.over _ _ _ _ k hh (cur_to C1 h1 e1 D.a3 D.b2) hx fun g2 e e2 he=>?_)
  obtain ⟨oe,h3,h4⟩:=he
  have q2:IsZip g2 z TI TO .ellipsis:=e2 _ _ D.a3.symm q1
  have ne:e ≠ z:=fun u=>by subst u;rw [q2] at h3;cases h3;simp at h4
  exact wpAny_setField_rec q2 (by simp) fun g3 _ e3=>hE g3 e (fun c o n1 _ n3 _ q=>e3.extBut _ _ n1 (e2 _ _ n3 (e1.extBut _ _ n1 q))) ⟨oe,e3.extBut _ _ ne h3,h4⟩
 | some x=>
  have hy:ys[k]?=none:=by rcases hend with u | u;rw [hx] at u;cases u;exact u
  refine wpAny_bind (C1.draw _ _ _ _ k x (cur_to C1 h1 e1 D.a3 D.b2) hx fun g2 c1 e2=>wpAny_pure ?_)
  have p2:IsPair g2 TO a b:=e2.extBut _ _ D.a8 (e1.extBut _ _ D.a2 hTO)
  refine wpAny_bind (wpAny_seqItems p2 rfl (wpAny_bind (wpAny_updateSeq_pair p2 fun g3 p3 e3=>wpAny_bind (wpAny_letGo (wpAny_pure ?_)))))
  have d2:S2 k g3:=cur_to C2 (cur_to C2 (cur_to C2 h2 e1 D.a4 D.b6) e2 D.b1.symm D.b8) e3 D.a9.symm D.b7
  refine wpAny_bind (wpAny_bind (wpAny_onRaise ?_));refine (show wpAny _ _ (Builtin.SmallTypes.nextOf (.ref i2) >>= _) _ _ _ from wpAny_bind (C2.over _ _ _ _ k hh d2 hy fun g4 e e4 he=>?_))
  obtain ⟨oe,h3,h4⟩:=he
  have q4:IsZip g4 z TI TO .ellipsis:=e4 _ _ D.a4.symm (e3.extBut _ _ D.a2.symm (e2.extBut _ _ D.a3.symm q1))
  have ne:e ≠ z:=fun u=>by subst u;rw [q4] at h3;cases h3;simp at h4
  exact wpAny_setField_rec q4 (by simp) fun g5 _ e5=>hE g5 e (fun c o n1 n2 n3 n4 q=>e5.extBut _ _ n1 (e4 _ _ n4 (e3.extBut _ _ n2 (e2.extBut _ _ n3 (e1.extBut _ _ n1 q))))) ⟨oe,e5.extBut _ _ ne h3,h4⟩
end
end
end L3
namespace L3
open PySem PySem.Spec PyProof.Rows L2
section
variable {X:Cx} {pins:List (Addr × Obj)} {σ:L2.St} {H:Hp} {s:Shared} {h':Heap}
theorem turnedL {t':Nat} {L:List Addr} (I:Inv X pins σ H s) (k:∀ b o,b ∉ L->s.heap.get? b=some o->h'.get? b=some o) (hf:∀ b ∈ L,FpOk X pins H b):Inv X pins σ H { s with heap:=h',toks:=t' }:=by
 have nit:∀ b u,H b=some u->b ∉ L:=fun b u e z=>by rw [(hf b z).1] at e;cases e
 have nl:X.env.locals ∉ L:=fun z=>(hf _ z).2.1 rfl
 refine I.step (g':=s.gens) (d':=s.drawn) (ch:=L) (fun b hb=>?_) (fun b o _ _ hc e _=>k b o hc e) (fun b o _ _ hc e _=>⟨o.slots,k b o hc e⟩) (fun _ _ _ _ n=>n)
  (fun b o hc e=>⟨o,k b o hc e⟩) (fun _ _ e=>e) (fun _ _ _ e=>e) (fun b ps e=>⟨#[],by rw [e];simp⟩) (fun m hm=>?_) (fun b u e=>?_) I.bare
 ·obtain ⟨f0,f1,f2,f3,f4,f5⟩:=hf b hb
  exact ⟨f3,f1,f4,f5⟩
 ·obtain ⟨o,es,ep,ho,r⟩:=hm
  exact ⟨o,es,ep,k _ o nl ho,r⟩
 ·refine (I.hok b u e).stay (fun c v hc q=>k c v ?_ q) (fun _ q=>q) fun _ _ q=>q
  rcases hc with z | z
  ·rw [z];exact nit b u e
  ·exact nit c _ z
end
section
variable {prog:Program} {w:World} {A:Around} {E:Value->Shared->Prop} {s:Shared} {z TI TO i1 i2 t1 t2:Addr} {xs ys:Array Value} {k:Nat}
abbrev TS1 (i1 t1:Addr) (xs:Array Value):Nat->Heap->Prop:=fun i h=>h.IsTupleIter i1 t1 i/\h.IsTuple t1 xs
theorem zipT_next {x y a b:Value} {Q:Option Value->Shared->Prop} (D:Apart z TI TO i1 i2 t1 t2) (hz:IsZip s.heap z TI TO .none) (hTI:IsPair s.heap TI (.ref i1) (.ref i2)) (hTO:IsPair s.heap TO a b)
  (h1:TS1 i1 t1 xs k s.heap) (h2:TS1 i2 t2 ys k s.heap) (hx:xs[k]?=some x) (hy:ys[k]?=some y)
  (hQ:∀ h',IsZip h' z TI TO (rawInt s.heap.objs.size)->IsPair h' TO x y->TS1 i1 t1 xs (k+1) h'->TS1 i2 t2 ys (k+1) h'->IsPair h' s.heap.objs.size x y->(∀ c o,c ≠ z->c ≠ TO->c ≠ i1->c ≠ i2->s.heap.get? c=some o->h'.get? c=some o)->Q (some (.ref s.heap.objs.size)) { s with heap:=h' }) :
  wpAny (model prog w) A (pyNext (.ref z)) Q E s:=by
 have ty:s.TypeIs (.ref z) "zip" := ⟨_,hz,rfl⟩
 unfold pyNext
 exact wpAny_bind (wpAny_attempt (wpAny_callSpecial?_slot (name:=Str.ofString "__next__") ty PySem.F.slot_zip_next (wpAny_call_entry PySem.F.slot_zip_next ty PySem.F.entry_zip_next
  (zip_draw D (cursor_tuple i1 t1 xs D.b4) (cursor_tuple i2 t2 ys D.b9) hz hTI hTO h1 h2 hx hy fun h' q1 q2 q3 q4 q5 q6=>wpAny_pure (hQ h' q1 q2 q3 q4 q5 q6)) (PySem.F.args_zip_next_1 _))))
theorem zipT_end {a b:Value} {Q:Option Value->Shared->Prop} (hh:A.handled=none) (D:Apart z TI TO i1 i2 t1 t2) (hz:IsZip s.heap z TI TO .none) (hTI:IsPair s.heap TI (.ref i1) (.ref i2)) (hTO:IsPair s.heap TO a b)
  (h1:TS1 i1 t1 xs k s.heap) (h2:TS1 i2 t2 ys k s.heap) (hend:xs[k]?=none\/ys[k]?=none)
  (hQ:∀ h',(∀ c o,c ≠ z->c ≠ TO->c ≠ i1->c ≠ i2->s.heap.get? c=some o->h'.get? c=some o)->Q none { s with heap:=h' }):wpAny (model prog w) A (pyNext (.ref z)) Q E s:=by
 have ty:s.TypeIs (.ref z) "zip" := ⟨_,hz,rfl⟩
 unfold pyNext
 refine wpAny_bind (wpAny_attempt (wpAny_callSpecial?_slot (name:=Str.ofString "__next__") ty PySem.F.slot_zip_next (wpAny_call_entry PySem.F.slot_zip_next ty PySem.F.entry_zip_next
  (zip_over hh D (cursor_tuple i1 t1 xs D.b4) (cursor_tuple i2 t2 ys D.b9) hz hTI hTO h1 h2 hend fun h' e kp he=>?_) (PySem.F.args_zip_next_1 _))))
 obtain ⟨o,ho,hc⟩:=he
 exact wpAny_bind (wpAny_isInstance (T := "StopIteration") (b:=true) ⟨o,ho,hc⟩ isSubtype_stop (wpAny_pure (hQ _ kp)))
abbrev zT1 (h:Heap) (a:Addr):Heap:=h.push { cls:=.type "tuple_iterator",data:=.fields #[.ref a,.int 0 0] }
abbrev zT3 (h:Heap) (a b:Addr):Heap:=(zT1 (zT1 h a) b).push { cls:=.type "tuple",data:=.seq #[.ref h.objs.size,.ref (zT1 h a).objs.size] }
abbrev zT4 (h:Heap) (a b:Addr):Heap:=(zT3 h a b).push { cls:=.type "tuple",data:=.seq #[.none,.none] }
abbrev zT5 (h:Heap) (a b:Addr):Heap:=(zT4 h a b).push { cls:=.type "zip",data:=.fields #[.none,.bool false,.bool false,.ref (zT1 (zT1 h a) b).objs.size,.ref (zT3 h a b).objs.size] }
theorem tup_push {h:Heap} {a:Addr} {us:Array Value} (o:Obj) (t:h.IsTuple a us):(h.push o).IsTuple a us:=by
 obtain ⟨p,e,r⟩:=t
 exact ⟨p,Heap.get?_push_of_some _ e,r⟩
theorem meets_zipT (a b:Addr) (xs ys:Array Value) :
  Meets (Builtin.«zip.__new__» ⟨[.type "zip",.ref a,.ref b],[]⟩) (fun _ R s=>(s.heap.IsTuple a xs/\s.heap.IsTuple b ys)/\R (.ok (.ret (.ref (zT4 s.heap a b).objs.size))) { s with heap:=zT5 s.heap a b }):=
 .of_wp fun prog w A R s h=>by
  obtain ⟨hp,g,d,tk,os⟩:=s
  obtain ⟨⟨e1,e2⟩,h⟩:=h
  have sub:=sub_zip
  have f1:Heap.IsTuple (Shared.heap ⟨hp,g,d,tk,os⟩) a xs:=e1
  have f2:Heap.IsTuple (Shared.heap ⟨zT1 hp a,g,d,tk,os⟩) b ys:=tup_push _ e2
  wp_walk using wpAny_pyIter_tuple f1,wpAny_pyIter_tuple f2
  exact ⟨_,rfl,h⟩
theorem call_zipT {a b:Addr} {Q:Value->Shared->Prop} (e1:s.heap.IsTuple a xs) (e2:s.heap.IsTuple b ys)
  (h:∀ h',IsZip h' (s.heap.objs.size+4) (s.heap.objs.size+2) (s.heap.objs.size+3) .none->IsPair h' (s.heap.objs.size+2) (.ref s.heap.objs.size) (.ref (s.heap.objs.size+1))->IsPair h' (s.heap.objs.size+3) .none .none →
   h'.IsTupleIter s.heap.objs.size a 0->h'.IsTupleIter (s.heap.objs.size+1) b 0->(∀ c o,s.heap.get? c=some o->h'.get? c=some o)->Q (.ref (s.heap.objs.size+4)) { s with heap:=h' }) :
  wpAny (model prog w) A (call (.type "zip") [.ref a,.ref b]) Q E s:=by
 refine callType_new PySem.F.called_zip (by decide) (PySem.F.typeCall_zip_2 _ _) (PySem.F.newCall_zip_2 _ _) (fun obj=>PySem.F.args_object_init_3 obj _ _) PySem.F.entry_zip_new (meets_zipT a b xs ys) ⟨⟨e1,e2⟩,?_⟩
 have n1:(zT1 s.heap a).objs.size=s.heap.objs.size+1:=Heap.size_push ..
 have n2:(zT1 (zT1 s.heap a) b).objs.size=s.heap.objs.size+2:=by rw [Heap.size_push,n1]
 have n3:(zT3 s.heap a b).objs.size=s.heap.objs.size+3:=by rw [Heap.size_push,n2]
 have n4:(zT4 s.heap a b).objs.size=s.heap.objs.size+4:=by rw [Heap.size_push,n3]
 have m5:(zT5 s.heap a b).get? (zT4 s.heap a b).objs.size=some _:=Heap.get?_push_size _ rfl
 have m4:(zT5 s.heap a b).get? (zT3 s.heap a b).objs.size=some _:=Heap.get?_push_of_some _ (Heap.get?_push_size _ rfl)
 have m3:(zT5 s.heap a b).get? (zT1 (zT1 s.heap a) b).objs.size=some _:=Heap.get?_push_of_some _ (Heap.get?_push_of_some _ (Heap.get?_push_size _ rfl))
 have m2:(zT5 s.heap a b).get? (zT1 s.heap a).objs.size=some _:=Heap.get?_push_of_some _ (Heap.get?_push_of_some _ (Heap.get?_push_of_some _ (Heap.get?_push_size _ rfl)))
 have m1:(zT5 s.heap a b).get? s.heap.objs.size=some _:=Heap.get?_push_of_some _ (Heap.get?_push_of_some _ (Heap.get?_push_of_some _ (Heap.get?_push_of_some _ (Heap.get?_push_size _ rfl))))
 refine (show _/\_ from ?_)
 rw [n2,n3,n4] at m5
 rw [n1,n2] at m3
 rw [n3] at m4
 rw [n1] at m2
 rw [n4]
 exact ⟨⟨_,m5,rfl⟩,h _ m5 m3 m4 ⟨_,m1,rfl,rfl⟩ ⟨_,m2,rfl,rfl⟩ fun c o x=>Heap.get?_push_of_some _ (Heap.get?_push_of_some _ (Heap.get?_push_of_some _ (Heap.get?_push_of_some _ (Heap.get?_push_of_some _ x))))⟩
end
def Itz (K:PySem.W.Frag) (t1 t2:Addr):It:=⟨fun i H=>∃ xs ys a b,SqT K H t1 xs/\SqT K H t2 ys/\xs[i]?=some a/\ys[i]?=some b,
 fun i H x H'=>∃ T a b,x=.ref T/\H T=none/\H'=upd H T (.tup [a,b])/\∀ xs ys,SqT K H t1 xs->SqT K H t2 ys->xs[i]?=some a/\ys[i]?=some b,
 fun i H=>∃ xs ys,SqT K H t1 xs/\SqT K H t2 ys/\(xs.length<=i\/ys.length<=i)⟩
theorem turn_zip {P:Program} {w:World} {K:PySem.W.Frag} {es:List Expr} {x1:Nat} {tpos:Pos} {z TI TO i1 i2 t1 t2:Addr} (D:Apart z TI TO i1 i2 t1 t2) :
  Turn P w K (.Tuple es x1 tpos) (Itz K t1 t2) [z,TI,TO,i1,i2] z (fun i h=>IsZip h z TI TO .none/\IsPair h TI (.ref i1) (.ref i2)/\(∃ a b,IsPair h TO a b)/\h.IsTupleIter i1 t1 i/\h.IsTupleIter i2 t2 i) where
 mem:=by simp
 obj:=fun i h st b hb=>by
  obtain ⟨q1,q2,⟨a,c,q3⟩,⟨o1,e1,_,d1⟩,⟨o2,e2,_,d2⟩⟩:=st
  simp only [List.mem_cons,List.not_mem_nil,or_false] at hb
  rcases hb with rfl | rfl | rfl | rfl | rfl
  ·exact ⟨_,q1,fun v u=>nomatch u⟩
  ·exact ⟨_,q2,fun v u=>nomatch u⟩
  ·exact ⟨_,q3,fun v u=>nomatch u⟩
  ·exact ⟨_,e1,fun v u=>by rw [d1] at u;cases u⟩
  ·exact ⟨_,e2,fun v u=>by rw [d2] at u;cases u⟩
 keep:=fun i h h' st kp=>by
  obtain ⟨q1,q2,⟨a,c,q3⟩,q4,q5⟩:=st
  exact ⟨kp z (by simp) _ q1,kp TI (by simp) _ q2,⟨a,c,kp TO (by simp) _ q3⟩,q4.at fun o e=>kp i1 (by simp) o e,q5.at fun o e=>kp i2 (by simp) o e⟩
 item:=by
  intro X hP hw hK hc i pins s σ H E I hf st hg
  subst hP hw hK
  obtain ⟨q1,q2,⟨a0,c0,q3⟩,q4,q5⟩:=st
  obtain ⟨xs,ys,a,b,hx,hy,ex,ey⟩:=hg
  obtain ⟨us,ru,pu,zu⟩:=I.tuple hx
  obtain ⟨vs,rv,pv',zv⟩:=I.tuple hy
  obtain ⟨u,eu,ra⟩:=ru.get ex
  obtain ⟨v,ev,rb⟩:=rv.get ey
  refine zipT_next D q1 q2 q3 ⟨q4,pu⟩ ⟨q5,pv'⟩ (x:=u) (y:=v) (by simpa using eu) (by simpa using ev) fun h' g1 g2 g3 g4 g5 kp=>⟨_,rfl,?_⟩
  refine wpAny_letOwnedTupleGo_zip (s:={ s with heap:=h' }) g1 fun h2 hz2 sb=>?_
  have lt:∀ {c o},s.heap.get? c=some o->s.heap.objs.size ≠ c:=fun e=>Nat.ne_of_gt (Heap.lt_size e)
  have kp2:∀ c o,c ∉ [z,TI,TO,i1,i2]->s.heap.get? c=some o->h2.get? c=some o:=fun c o n e=>by
   simp only [List.mem_cons,List.not_mem_nil,or_false,not_or] at n
   exact sb.extBut _ _ n.1 (kp c o n.1 n.2.2.1 n.2.2.2.1 n.2.2.2.2 e)
  have I1:Inv X pins σ H { s with heap:=h2 }:=turnedL (t':=s.toks) I kp2 hf
  have T2:IsPair h2 s.heap.objs.size u v:=sb.extBut _ _ (lt q1) g5
  have sN:s.heap.get? s.heap.objs.size=none:=Heap.get?_none_of_le (Nat.le_refl _)
  have hN:H s.heap.objs.size=none:=I.hok.fresh (Nat.le_refl _)
  have I2:Inv X pins σ (upd H s.heap.objs.size (.tup [a,b])) { s with heap:=h2 }:=inv_track I1 (Heap.get?_none_of_le I.sz) (Nat.ne_of_gt I.lt)
   (fun y c ec=>by obtain ⟨_,o,ho,_⟩:=I.cell y c ec;exact Ne.symm (lt ho)) (fun p hp=>Ne.symm (lt (I.pin p hp).1)) hN
   ⟨few (by show 2<=_;omega),[u,v],.cons ra (.cons rb .nil),⟨_,T2,rfl,0,rfl⟩⟩
  refine ⟨.ref s.heap.objs.size,_,I2,rfl,⟨_,a,b,rfl,hN,rfl,fun xs' ys' hx' hy'=>?_⟩,⟨hz2,?_,?_,?_,?_⟩,fun c hc=>?_⟩
  ·rw [I.tuple_inj hx' hx,I.tuple_inj hy' hy];exact ⟨ex,ey⟩
  ·exact sb.extBut _ _ D.a1 (kp _ _ D.a1 D.a5 D.a6 D.a7 q2)
  ·exact ⟨_,_,sb.extBut _ _ D.a2 g2⟩
  ·exact g3.1.extBut sb.extBut D.a3
  ·exact g4.1.extBut sb.extBut D.a4
  ·have ne:c ≠ s.heap.objs.size:=by
    simp only [List.mem_cons,List.not_mem_nil,or_false] at hc
    obtain ⟨o1,e1,_⟩:=q4
    obtain ⟨o2,e2,_⟩:=q5
    rcases hc with rfl | rfl | rfl | rfl | rfl
    ·exact Ne.symm (lt q1)
    ·exact Ne.symm (lt q2)
    ·exact Ne.symm (lt q3)
    ·exact Ne.symm (lt e1)
    ·exact Ne.symm (lt e2)
   rw [upd_ne ne];exact (hf c hc).1
 done:=by
  intro X hP hw hK hc i pins s σ H E I hf st hg
  subst hP hw hK
  obtain ⟨q1,q2,⟨a0,c0,q3⟩,q4,q5⟩:=st
  obtain ⟨xs,ys,hx,hy,he⟩:=hg
  obtain ⟨us,ru,pu,zu⟩:=I.tuple hx
  obtain ⟨vs,rv,pv',zv⟩:=I.tuple hy
  have l1:=ru.length
  have l2:=rv.length
  refine zipT_end (I.ok.hd hc) D q1 q2 q3 ⟨q4,pu⟩ ⟨q5,pv'⟩ ?_ fun h' kp=>⟨rfl,turnedL (t':=s.toks) I (fun c o n e=>?_) hf⟩
  ·rcases he with he | he
   ·exact .inl (by simp;omega)
   ·exact .inr (by simp;omega)
  ·simp only [List.mem_cons,List.not_mem_nil,or_false,not_or] at n
   exact kp c o n.1 n.2.2.1 n.2.2.2.1 n.2.2.2.2 e
 self:=fun _ _ _ _ _ st h=>wpAny_pyIter_zip st.1 h
theorem apart_mk {n t1 t2:Nat} (h1:t1 < n) (h2:t2 < n):Apart (n+4) (n+2) (n+3) n (n+1) t1 t2:=
 { a1:=(by omega:(n+2:Nat) ≠ n+4),a2:=(by omega:(n+3:Nat) ≠ n+4),a3:=(by omega:(n:Nat) ≠ n+4),a4:=(by omega:(n+1:Nat) ≠ n+4),a5:=(by omega:(n+2:Nat) ≠ n+3),a6:=(by omega:(n+2:Nat) ≠ n),a7:=(by omega:(n+2:Nat) ≠ n+1),a8:=(by omega:(n+3:Nat) ≠ n),a9:=(by omega:(n+3:Nat) ≠ n+1),b1:=(by omega:(n:Nat) ≠ n+1),b2:=(by omega:(t1:Nat) ≠ n+4),b3:=(by omega:(t1:Nat) ≠ n+3),b4:=(by omega:(t1:Nat) ≠ n),b5:=(by omega:(t1:Nat) ≠ n+1),b6:=(by omega:(t2:Nat) ≠ n+4),b7:=(by omega:(t2:Nat) ≠ n+3),b8:=(by omega:(t2:Nat) ≠ n),b9:=(by omega:(t2:Nat) ≠ n+1) }
section
variable {X:Cx} {es:List Expr} {x1:Nat} {tpos:Pos}
def iZip (K:PySem.W.Frag) (ta:TA):TI:=fun σ H R=>ta σ H fun vs H1=>∃ t1 t2:Addr,vs=[.ref t1,.ref t2]/\(∃ xs,SqT K H1 t1 xs)/\(∃ ys,SqT K H1 t2 ys)/\R (Itz K t1 t2) H1
theorem pi_zip {a b:Expr} {ta:TA} {p pos:Pos} (hg:Gl X "zip") (hm:X.mg "zip" = none) (ha:PA X [a,b] ta) (hs:starEach [a,b] X.env=[(false,eval a X.env),(false,eval b X.env)]:=by rfl) (hs2:starEach [b] X.env=[(false,eval b X.env)]:=by rfl) :
  PI X (.Tuple es x1 tpos) (.Call (.Name "zip" p) [a,b] [] pos) (iZip X.K ta):=by
 intro pins s σ H R I h
 refine Call_ (ld_blt I hg hm PyProof.Rows.boot_zip (PyProof.Rows.callWith_type1 (thn (ha pos pins s σ H _ I h) fun us s1 ⟨vs,H1,I1,r1,q1⟩=>?_) (by rw [hs,hs2]) (by rw [hs2];rfl)))
 obtain ⟨t1,t2,e,⟨xs,hx⟩,⟨ys,hy⟩,q⟩:=q1
 subst e
 obtain ⟨u1,u2,rfl,r1',r2'⟩:=r1.two
 cases r1';cases r2'
 obtain ⟨us,ru,pu,zu⟩:=I1.tuple hx
 obtain ⟨vs,rv,pv',zv⟩:=I1.tuple hy
 refine call_zipT pu pv' fun h' g1 g2 g3 g4 g5 kp=>?_
 refine wpAny_pyIter_zip (s:={ s1 with heap:=h' }) g1 ?_
 have lt1:t1 < s1.heap.objs.size:=by obtain ⟨_,e,_⟩:=pu;exact Heap.lt_size e
 have lt2:t2 < s1.heap.objs.size:=by obtain ⟨_,e,_⟩:=pv';exact Heap.lt_size e
 have D:Apart (s1.heap.objs.size+4) (s1.heap.objs.size+2) (s1.heap.objs.size+3) s1.heap.objs.size (s1.heap.objs.size+1) t1 t2:=apart_mk lt1 lt2
 refine ⟨_,_,_,Itz X.K t1 t2,H1,rfl,I1.kept (t':=s1.toks) kp,turn_zip D,⟨g1,g2,⟨_,_,g3⟩,g4,g5⟩,fun b hb=>?_,q⟩
 have hb':s1.heap.objs.size<=b:=by
  simp only [List.mem_cons,List.not_mem_nil,or_false] at hb
  rcases hb with rfl | rfl | rfl | rfl | rfl
  ·exact Nat.le_add_right _ _
  ·exact Nat.le_add_right _ _
  ·exact Nat.le_add_right _ _
  ·exact Nat.le_refl _
  ·exact Nat.le_add_right _ _
 exact I1.fpOk hb' (I1.hok.fresh hb')
theorem call_sum (hc:X.calm=true):CallR X (.builtin "sum") (fun xs H Q=>∃ (p:Addr) (ns:List Int),xs=[.ref p]/\SqL X.K H p (ns.map V.int)/\Q (.int ns.sum) H):=by
 intro pins s σ H xs us Q I r h
 obtain ⟨p,ns,rfl,hq,q⟩:=h
 obtain ⟨u,rfl,ru⟩:=r.one
 cases ru
 obtain ⟨its,rv,hp,hz⟩:=I.list hq
 have hlt:p < s.heap.objs.size:=by obtain ⟨_,e,_⟩:=hp.isList;exact Heap.lt_size e
 have el:its.toArray.size=ns.length:=by rw [List.size_toArray,<-rv.length,List.length_map]
 refine call_sum_walkG (wpAny_pyIter_list hp.isList ?_)
 refine ⟨s.heap.objs.size,[s.heap.objs.size,p],[s.heap.objs.size],its.toArray.size,_,_,fun i=>ns.getD i 0,rfl,Walks.list (A:=X.A.in1) (I.ok.hd hc) _ _ (Nat.ne_of_lt hlt) its.toArray,⟨⟨_,Heap.get?_push_size _ rfl,rfl,rfl⟩,hp.isList.push _⟩,?_,?_,?_⟩
 ·intro b hb
  simp only [List.mem_cons,List.not_mem_nil,or_false] at hb
  rw [Heap.size_push]
  rcases hb with rfl | rfl
  ·exact Nat.lt_succ_self _
  ·exact Nat.lt_succ_of_lt hlt
 ·intro i v hv
  have hv':its[i]?=some v:=by simpa using hv
  have hi:i < ns.length:=by
   have:=(List.getElem?_eq_some_iff.mp hv').1
   rw [<-el,List.size_toArray];exact this
  obtain ⟨u,hu,ru⟩:=rv.get (i:=i) (x:=V.int ns[i]) (by rw [List.getElem?_map,List.getElem?_eq_getElem hi];rfl)
  rw [hv'] at hu;cases hu
  obtain ⟨t,rfl⟩:=ru
  exact ⟨t,by show Value.int ns[i] t=Value.int (ns.getD i 0) t;rw [List.getD_eq_getElem?_getD,List.getElem?_eq_getElem hi];rfl⟩
 ·intro h' tk t' hk
  rw [el,preSum_getD,List.take_length]
  exact ⟨.int _,H,I.kept fun b o e=>hk b o (fun z=>absurd (Heap.lt_size e) (by rw [List.mem_singleton.mp z];exact Nat.lt_irrefl _)) (Heap.get?_push_of_some _ e),⟨_,rfl⟩,q⟩
def rIxOf:V->List V->Hp->VK->Prop:=fun x vs H Q=>∃ (l:Addr) (ws:List Str) (z:Str) (j:Nat),x=.ref l/\vs=[.str z]/\H l=some (.lst (ws.map V.str))/\ws[j]?=some z/\(∀ m,m < j->ws[m]? ≠ some z)/\ws.length<=1000/\Q (.int (j:Nat)) H
theorem mt_indexL:MtM X "list.index" rIxOf:=by
 intro pins s σ H x vs v us Q I rx rv h
 obtain ⟨l,ws,z,j,rfl,rfl,hH,hj,hno,hw,q⟩:=h
 cases rx
 obtain ⟨u,rfl,ru⟩:=rv.one
 obtain ⟨t,rfl⟩:=ru
 obtain ⟨zz,its,n,r,hl,e⟩:=I.lstM hH
 have hjl:j < ws.length:=(List.getElem?_eq_some_iff.mp hj).1
 have hits:its.length=ws.length:=by rw [<-hl,List.length_map]
 have at':∀ m (hm:m < its.length),∃ (y:Str) (ty:Tok),its[m]=.str y ty/\ws[m]?=some y:=fun m hm=>by
  have hm':m < ws.length:=by omega
  obtain ⟨u,eu,ru⟩:=r.get (i:=m) (x:=V.str ws[m]) (by rw [List.getElem?_map,List.getElem?_eq_getElem hm'];rfl)
  rw [List.getElem?_eq_getElem hm] at eu
  cases eu
  obtain ⟨ty,ety⟩:=ru
  exact ⟨ws[m],ty,ety,List.getElem?_eq_getElem hm'⟩
 have flat:(ws.map V.str).all flatV=true:=by rw [List.all_map,List.all_eq_true];exact fun _ _=>rfl
 refine call_meets PySem.F.slot_list_index ⟨_,e,rfl⟩ PySem.F.entry_list_index (PySem.F.args_list_index_2 _ _)
  (SeqAt.list_indexAt l its.toArray n none #[] (.str z t) (eqU (.str z)) j (by rw [List.size_toArray];omega) (by omega) ?_ ?_) ⟨e,fun y hy=>mem_eqAt (x:=.str z) (v:=.str z t) ⟨t,rfl⟩ rfl r flat y (by simpa using hy),⟨.int _,H,I.tok _,⟨_,rfl⟩,q⟩⟩
 ·obtain ⟨y,ty,e1,e2⟩:=at' j (by omega)
  rw [List.getElem_toArray,e1]
  rw [hj] at e2
  cases e2
  show (z == z)=true
  simp
 ·intro m hm hmj
  rw [List.size_toArray] at hm
  obtain ⟨y,ty,e1,e2⟩:=at' m hm
  rw [List.getElem_toArray,e1]
  show (y == z)=false
  have:y ≠ z:=fun q=>hno m hmj (by rw [e2,q])
  simp [this]
theorem ix_dictM {K:PySem.W.Frag} (hK:X.K=K) {a:Addr} {es:Array DictEntry} {n:Nat} (hl:K.lookup a=some ⟨.type "dict",none,.dict es n,#[]⟩) (hk:PySem.W.KeysLit X.w.params es.toList) :
  IxR X (fun x y H Q=>∃ (z:Str) (v:V) (u:Value),x=.ref a/\y=.str z/\PySem.W.nsIn K a z=some (some u)/\RelV v u/\Q v H):=by
 subst hK
 intro value slice pins s σ H x y v u Q I rx ry h hs
 obtain ⟨z,v',u',rfl,rfl,e,rv,q⟩:=h
 cases rx
 obtain ⟨t,rfl⟩:=ry
 have hm:=PySem.W.mapOf_K (prog:=X.prog) I.kIn hl hk
 exact tail_any hm.typeIs PySem.F.slot_dict_getitem.lookup (wpAny_getItem_of (strKind_is X.prog X.w z t) hm (PySem.W.find_K hl e) ⟨v',H,I.tok _,rv,q⟩) hs
end
end L3
namespace L3
open PySem PySem.Spec PyProof.Rows L2
section
variable {X:Cx}
end
def eqL:List V->List V->Bool
 | [],[]=>true
 | x :: xs,y :: ys=>eqV x y && eqL xs ys
 | _,_=>false
theorem eqL_eq:∀ xs ys:List V,(decide (xs.length=ys.length) && (List.range xs.length).all fun i=>eqV (xs.getD i .non) (ys.getD i .non))=eqL xs ys
 | [],[]=>rfl
 | [],y :: ys=>by simp [eqL]
 | x :: xs,[]=>by simp [eqL]
 | x :: xs,y :: ys=>by
  have ih:=eqL_eq xs ys
  rw [List.length_cons,List.length_cons,List.range_succ_eq_map,List.all_cons,List.all_map]
  have e:decide (xs.length+1=ys.length+1)=decide (xs.length=ys.length):=decide_eq_decide.mpr (by omega)
  rw [e]
  show (decide (xs.length=ys.length) && (eqV x y && (List.range xs.length).all fun i=>eqV (xs.getD i .non) (ys.getD i .non)))=(eqV x y && eqL xs ys)
  rw [<-ih]
  exact Bool.and_left_comm _ _ _
theorem EqS.flats {K:PySem.W.Frag} {H:Hp} {p r:Addr} {xs ys:List V} (h:(SqL K H p xs/\SqL K H r ys)\/(SqT K H p xs/\SqT K H r ys)) (hx:xs.all flatV=true) (hy:ys.all flatV=true):EqS K H 0 (.ref p) (.ref r) (eqL xs ys):=by
 refine ⟨p,r,xs,ys,fun i=>eqV (xs.getD i .non) (ys.getD i .non),rfl,rfl,h,fun i x y ex ey=>?_,(eqL_eq xs ys).symm⟩
 refine ⟨List.all_eq_true.mp hx x (List.mem_of_getElem? ex),List.all_eq_true.mp hy y (List.mem_of_getElem? ey),?_⟩
 show eqV (xs[i]?.getD .non) (ys[i]?.getD .non)=_
 rw [ex,ey];rfl
end L3
namespace Vm
open PySem PySem.Spec PyProof.Rows L2 L3
section
open PySem.StrLaws Builtin Builtin.Str
end
structure TupsAt (H:Hp) (ts:List Addr) (sts:List Sk):Prop where
 len:ts.length=sts.length
 item:∀ (i:Nat) (t:Addr) (st:Sk),ts[i]?=some t->sts[i]?=some st->H t=some (.tup (stepV st))/\okS st
theorem TupsAt.at {K:PySem.W.Frag} {H:Hp} {ts:List Addr} {sts:List Sk} (h:TupsAt H ts sts):StepsAt K H ts sts:=
 ⟨h.len,fun i t st e1 e2=>⟨SqT.of (h.item i t st e1 e2).1,(h.item i t st e1 e2).2⟩⟩
theorem TupsAt.mono {H H':Hp} {ts:List Addr} {sts:List Sk} (S:Same H H') (h:TupsAt H ts sts):TupsAt H' ts sts:=
 ⟨h.len,fun i t st e1 e2=>⟨S _ _ (h.item i t st e1 e2).1,(h.item i t st e1 e2).2⟩⟩
theorem TupsAt.nil {H:Hp}:TupsAt H [] []:=⟨rfl,fun i t st e _=>by simp at e⟩
theorem TupsAt.app {H:Hp} {ts us:List Addr} {sts sus:List Sk} (h:TupsAt H ts sts) (h2:TupsAt H us sus):TupsAt H (ts++us) (sts++sus):=by
 refine ⟨by rw [List.length_append,List.length_append,h.len,h2.len],fun i t st e1 e2=>?_⟩
 by_cases hi:i < ts.length
 ·rw [List.getElem?_append_left hi] at e1
  rw [List.getElem?_append_left (by rw [<-h.len];exact hi)] at e2
  exact h.item i t st e1 e2
 ·rw [List.getElem?_append_right (by omega)] at e1
  rw [List.getElem?_append_right (by rw [<-h.len];omega),<-h.len] at e2
  exact h2.item _ t st e1 e2
theorem TupsAt.one {H:Hp} {t:Addr} {st:Sk} (h:H t=some (.tup (stepV st))) (ho:okS st):TupsAt H [t] [st]:=by
 refine ⟨rfl,fun i t' st' e1 e2=>?_⟩
 cases i with
 | zero=>cases e1;cases e2;exact ⟨h,ho⟩
 | succ i=>simp at e1
theorem TupsAt.set {H:Hp} {l:Addr} {ts:List Addr} {sts:List Sk} {ys:List V} {o:HO} (h:TupsAt H ts sts) (hl:H l=some (.lst ys)):TupsAt (upd H l o) ts sts:=
 ⟨h.len,fun i t st e1 e2=>⟨by
  have e:=(h.item i t st e1 e2).1
  have n:t ≠ l:=fun z=>by rw [z,hl] at e;cases e
  rw [upd_ne n];exact e,(h.item i t st e1 e2).2⟩⟩
theorem freeNe {H:Hp} {p r:Addr} {o:HO} (h:upd H p o r=none):r ≠ p/\H r=none:=by
 have n:r ≠ p:=fun e=>by rw [e,upd_same] at h;cases h
 exact ⟨n,by rw [upd_ne n] at h;exact h⟩
theorem comp_grow {α:Type} {J:It} {H:Hp} {as:List α} {v:α->V} {te:TE} {Q:VK} {rest:L2.St} (I:Nat->List V->Hp->Prop) (hs:∀ i acc H',i<=as.length->I i acc H'->Src J H' (as.map v)) (hz:as.length<=sizeLine) (h0:I 0 [] H)
  (hl:∀ i acc H',I i acc H'->acc.length=i) (he:∀ i a acc H',as[i]?=some a->I i acc H'->∀ k:VK,(∀ x H2,I (i+1) (acc++[x]) H2->k x H2)->te (some (v a) :: rest) H' k)
  (hq:∀ acc H',I as.length acc H'->∀ D,H' D=none->Q (.ref D) (upd H' D (.lst acc))):wComp J (gName 0) tYes te Q (none :: rest) H:=by
 refine ⟨fun i m σ acc H'=>I i acc H'/\i<=as.length/\m=as.length - i/\∃ o,σ=o :: rest,⟨as.length,h0,Nat.zero_le _,rfl,none,rfl⟩,?_⟩
 rintro i m σ acc H' ⟨hI,hi,rfl,o,rfl⟩
 have hacc:=hl i acc H' hI
 have S:=hs i acc H' hi hI
 by_cases hlt:i < as.length
 ·refine .inr ⟨S.go i (by rw [List.length_map];exact hlt),fun x H1 y=>?_⟩
  obtain ⟨rfl,hx⟩:=S.yld i x H1 (by rw [List.length_map];exact hlt) y
  rw [List.getElem?_map,List.getElem?_eq_getElem hlt] at hx
  have hx':v as[i]=x:=Option.some.inj hx
  subst hx'
  show te (some (v as[i]) :: rest) H1 _
  exact he i as[i] acc H1 (List.getElem?_eq_getElem hlt) hI _ fun x H2 h2=>⟨by omega,as.length - (i+1),by omega,h2,hlt,rfl,_,rfl⟩
 ·have ei:i=as.length:=by omega
  subst ei
  exact .inl ⟨S.stop _ (by rw [List.length_map];exact Nat.le_refl _),by omega,hq acc H' hI⟩
end Vm
namespace L3
open PySem PySem.Spec PyProof.Rows L2
def Itr3 (lo c:Int) (n:Nat):It:=⟨fun i _=>i < n,fun i H x H'=>H'=H/\x=.int (lo+(i:Nat) * c),fun i _=>n<=i⟩
theorem turn_range3 {P:Program} {w:World} {K:PySem.W.Frag} {tg:Expr} (it:Addr) (lo c:Int) (n:Nat):Turn P w K tg (Itr3 lo c n) [it] it (fun i h=>IsRangeIter h it (lo+(i:Nat) * c) ((n:Int) - (i:Nat)) c) where
 mem:=List.mem_singleton.mpr rfl
 obj:=fun i h st b hb=>by
  rw [List.mem_singleton.mp hb]
  exact ⟨_,st,fun v z=>nomatch (show Data.fields _=Data.cell v from z)⟩
 keep:=fun i h h' st k=>k it (List.mem_singleton.mpr rfl) _ st
 item:=by
  intro X hP hw hK hc i pins s σ H E I hf st hg
  subst hP hw hK
  obtain ⟨f0,f1,f2,f3,f4,f5⟩:=hf it (List.mem_singleton.mpr rfl)
  refine (Walks.range (prog:=X.prog) (w:=X.w) (I.ok.hd hc) it lo c n).item i s _ _ hg st fun v h' tk hv st' kk=>?_
  obtain ⟨t,rfl⟩:=hv
  have I1:Inv X pins σ H { s with heap:=h',toks:=tk }:=I.turned (fun b o hb e=>kk b o (fun z=>hb (List.mem_singleton.mp z)) e) f0 f1 f3 f4 f5
  exact ⟨_,rfl,go_of (s:={ s with heap:=h',toks:=tk }) (n := "range_iterator") st' rfl rfl (by decide) ⟨.int (lo+(i:Nat) * c),H,I1,⟨t,rfl⟩,⟨rfl,rfl⟩,st',fun b hb=>(hf b hb).1⟩⟩
 done:=by
  intro X hP hw hK hc i pins s σ H E I hf st hg
  subst hP hw hK
  obtain ⟨f0,f1,f2,f3,f4,f5⟩:=hf it (List.mem_singleton.mpr rfl)
  have hle:(n:Int) - (i:Nat)<=0:=by have:n<=i:=hg;omega
  exact wpAny_pyNext_range_end (I.ok.hd hc) st hle fun h' eb=>⟨rfl,I.turned (t':=s.toks) (fun b o hb e=>eb b o hb e) f0 f1 f3 f4 f5⟩
 self:=fun _ _ _ _ _ st h=>wpAny_pyIter_rangeiter st h
section
variable {X:Cx} {tg:Expr}
theorem range_it3 {pins:List (Addr × Obj)} {σ:L2.St} {H:Hp} {s:Shared} {R:It->Hp->Prop} {E:Value->Shared->Prop} {lo hi c:Int} {n:Nat} {t u v:Tok} {tk:Nat} (I:Inv X pins σ H s) (hs:Builtin.Range.small lo hi c=true) (hn:Builtin.Range.rangeSize lo hi c=(n:Int))
  (q:R (Itr3 lo c n) H):wpAny (model X.prog X.w) X.A (pyIter (.ref s.heap.objs.size)) (PIE X pins σ tg R) E { s with heap:=s.heap.push { cls:=.type "range",data:=.fields #[.int lo t,.int hi u,.int c v] },toks:=tk }:=by
 refine wpAny_pyIter_range (IsRange.new ..) hs ?_
 have I1:Inv X pins σ H { s with heap:=s.heap.push { cls:=.type "range",data:=.fields #[.int lo t,.int hi u,.int c v] },toks:=tk }:=I.kept fun b o e=>Heap.get?_push_of_some _ e
 generalize hg:s.heap.push { cls:=.type "range",data:=.fields #[.int lo t,.int hi u,.int c v] }=g at I1
 refine ⟨g.objs.size,[g.objs.size],_,_,H,rfl,I1.kept (t':=tk) fun b o e=>Heap.get?_push_of_some _ e,turn_range3 _ lo c n,?_,fun b hb=>?_,q⟩
 ·show IsRangeIter _ _ (lo+((0:Nat):Int) * c) ((n:Int) - ((0:Nat):Int)) c
  rw [show lo+((0:Nat):Int) * c=lo by simp,show (n:Int) - ((0:Nat):Int)=Builtin.Range.rangeSize lo hi c by rw [hn];simp]
  exact Heap.get?_push_size _ rfl
 ·rw [List.mem_singleton.mp hb]
  exact I1.fpOk (Nat.le_refl _) (I1.hok.fresh (Nat.le_refl _))
def iRng3 (ta:TA):TI:=fun σ H R=>ta σ H fun vs H1=>∃ (i j c:Int) (n:Nat),vs=[.int i,.int j,.int c]/\c ≠ 0/\c.natAbs < 1073741824/\Builtin.Range.small i j c=true/\Builtin.Range.rangeSize i j c=(n:Int)/\R (Itr3 i c n) H1
theorem pi_range3 {a b d:Expr} {ta:TA} {p pos:Pos} (hg:Gl X "range") (hm:X.mg "range" = none) (ha:PA X [a,b,d] ta) (hs:starEach [a,b,d] X.env=[(false,eval a X.env),(false,eval b X.env),(false,eval d X.env)]:=by rfl) (hs2:starEach [b,d] X.env=[(false,eval b X.env),(false,eval d X.env)]:=by rfl) :
  PI X tg (.Call (.Name "range" p) [a,b,d] [] pos) (iRng3 ta):=by
 intro pins s σ H R I h
 refine Call_ (ld_blt I hg hm boot_range (PyProof.Rows.callWith_type1 (thn (ha pos pins s σ H _ I h) fun us s1 ⟨vs,H1,I1,r1,q1⟩=>?_) (by rw [hs,hs2]) (by rw [hs2];rfl)))
 obtain ⟨i,j,c,n,e,hc,hc2,h1,h2,q⟩:=q1
 subst e
 cases r1 with
 | cons r rr=>
 cases rr with
 | cons r' rr=>
 cases rr with
 | cons r'' rr=>
  cases rr
  obtain ⟨t,rfl⟩:=r
  obtain ⟨t',rfl⟩:=r'
  obtain ⟨t'',rfl⟩:=r''
  exact call_range_3 hc (range_it3 I1 h1 h2 q) (Or.inl (PyProof.noPylong_small hc2))
theorem for_range3 {lo c:Int} {n:Nat} {g:TG} {tb:TS} {D:Ends} {σ:L2.St} {H:Hp} (Pv:Nat->L2.St->Hp->Prop) (h0:Pv 0 σ H)
  (hs:∀ i σ H,i < n->Pv i σ H->g (.int (lo+(i:Nat) * c)) σ H fun σ2 H2=>tb { D with nx:=Pv (i+1),ct:=Pv (i+1),bk:=D.nx } σ2 H2) (hd:∀ σ H,Pv n σ H->D.nx σ H) :
  ∃ W:Nat->Nat->L2.St->Hp->Prop,(∃ m,W 0 m σ H)/\∀ i m σ H,W i m σ H →
   ((Itr3 lo c n).stop i H/\D.nx σ H)\/((Itr3 lo c n).go i H/\∃ N:L2.St->Hp->Prop,(∀ σ' H',N σ' H'->∃ m',m' < m/\W (i+1) m' σ' H')/\∀ x H',(Itr3 lo c n).yld i H x H'->g x σ H' fun σ2 H2=>tb { D with nx:=N,ct:=N,bk:=D.nx } σ2 H2):=by
 refine ⟨fun i m σ H=>m=n - i/\i<=n/\Pv i σ H,⟨n,by simp,Nat.zero_le _,h0⟩,?_⟩
 rintro i m σ H ⟨rfl,hi,p⟩
 rcases Nat.lt_or_ge i n with hlt | hge
 ·refine .inr ⟨hlt,Pv (i+1),fun σ' H' p'=>⟨n - (i+1),by omega,rfl,hlt,p'⟩,?_⟩
  rintro x H' ⟨rfl,rfl⟩
  exact hs i σ _ hlt p
 ·have e:i=n:=by omega
  subst e
  exact .inl ⟨Nat.le_refl _,hd σ H p⟩
end
end L3
namespace L3
open PySem PySem.Spec PyProof.Rows L2
section
variable {X:Cx}
theorem op_mulB:OpR X (binaryOp .Mult) (rI (fun i j=>IntMulOk i j) fun i j=>.int (i * j)):=opI fun _ _ _ _ _ _ _ hc q=>mul_int q hc
end
end L3
namespace HT
open PySem PySem.Spec PyProof.Rows
section
variable {prog:Program} {w:World} {A:Around} {E:Value->Shared->Prop} {s:Shared}
theorem adjust_rev (n:Nat):Builtin.Slice.sliceAdjust none none (-1) (n:Int)=((n:Int) - 1,-1):=by
 unfold Builtin.Slice.sliceAdjust
 simp
theorem places_rev (n:Nat):Builtin.Slice.slicePlaces ((n:Int) - 1) (-1) (-1)=n:=by
 unfold Builtin.Slice.slicePlaces
 simp
 try omega
theorem fm_map {α β:Type} {f:α->Option β} {g:α->β}:∀ {l:List α},(∀ m ∈ l,f m=some (g m))->l.filterMap f=l.map g
 | [],_=>rfl
 | a :: r,h=>by rw [List.filterMap_cons,h a List.mem_cons_self,List.map_cons,fm_map fun m hm=>h m (List.mem_cons_of_mem _ hm)]
theorem pick_rev (xs:Array Value):((List.range xs.size).filterMap fun (m:Nat)=>xs[(((xs.size:Nat):Int) - 1+(m:Int) * (-1)).toNat]?).toArray=xs.toList.reverse.toArray:=by
 congr 1
 rw [fm_map (g:=fun m=>(xs[xs.size - 1 - m]?).getD .none) fun m hm=>?_]
 ·apply List.ext_getElem?
  intro i
  rw [List.getElem?_map]
  by_cases hi:i < xs.size
  ·rw [List.getElem?_range hi,List.getElem?_reverse (by rw [Array.length_toList];exact hi),Array.length_toList,Array.getElem?_toList]
   show some ((xs[xs.size - 1 - i]?).getD .none)=_
   rw [Array.getElem?_eq_getElem (show xs.size - 1 - i < xs.size by omega)]
   rfl
  ·rw [List.getElem?_eq_none (by rw [List.length_range];omega),List.getElem?_eq_none (by rw [List.length_reverse,Array.length_toList];omega)]
   rfl
 ·have hm':=List.mem_range.mp hm
  have e1:(((xs.size:Nat):Int) - 1+(m:Int) * (-1)).toNat=xs.size - 1 - m:=by omega
  show xs[(((xs.size:Nat):Int) - 1+(m:Int) * (-1)).toNat]?=some ((xs[xs.size - 1 - m]?).getD .none)
  rw [e1,Array.getElem?_eq_getElem (show xs.size - 1 - m < xs.size by omega)]
  rfl
theorem getItem_tuple_rev {t sl:Addr} {items:Array Value} {tk:Tok} {Q:Value->Shared->Prop} (ht:IsTup s.heap t items) (hs:s.heap.IsSliceOf sl .none .none (.int (-1) tk))
  (h:Q (.ref s.heap.objs.size) { s with heap:=s.heap.push { cls:=.type "tuple",data:=.seq items.toList.reverse.toArray } })
  (hsz:items.size<=sizeLine):wpAny (model prog w) A (getItem (.ref t) (.ref sl)) Q E s:=by
 have htake:sizeOk (.seq items.toList.reverse.toArray):=by
  show items.toList.reverse.toArray.size<=sizeLine
  rw [List.size_toArray,List.length_reverse,Array.length_toList]
  exact hsz
 obtain ⟨os,hos,hcs,hds⟩:=id hs
 have hTs:s.TypeIs (.ref sl) "slice" := ⟨os,hos,hcs⟩
 unfold getItem
 try with_reducible refine wpAny_holding ?_
 first | refine wpAny_bind (wpAny_pure ?_) | skip
 refine wpAny_bind (wpAny_sequenceKey ht.typeIs (by decide) ?_)
 refine wpAny_bind (wpAny_callSpecial?_slot (name:=Str.ofString "__getitem__") ht.typeIs PyProof.Rows.slot_tuple_getitem
  (wpAny_call_entry PyProof.Rows.slot_tuple_getitem ht.typeIs entry_tuple_getitem ?_ (args_tuple_getitem _ _)))
 show wpAny _ _ (Builtin.Tuple.tupleItemsOf (.ref t) >>= _) _ _ s
 refine wpAny_bind (tupleItemsOf_ ht ?_)
 refine wpAny_bind (wpAny_typeOf hTs ?_)
 rw [if_pos (by decide)]
 have app:∀ {Q:Int × Int × Nat->Shared->Prop},Q (((items.size:Nat):Int) - 1,-1,items.size) s->wpAny (model prog w) A.in1 (Builtin.Slice.sliceApplied (.ref sl) (pure ((items.size:Nat):Int))) Q E s:=fun hq=>by
  unfold Builtin.Slice.sliceApplied Builtin.Slice.sliceFields
  refine wpAny_bind (wpAny_bind (wpAny_field hos hds (x:=.none) rfl (wpAny_bind (wpAny_field hos hds (x:=.none) rfl (wpAny_bind (wpAny_field hos hds (x:=.int (-1) tk) rfl (wpAny_pure ?_)))))))
  refine wpAny_bind (slicePart_int ?_)
  show wpAny _ _ (if ((-1:Int) == 0)=true then _ else _) _ _ s
  rw [if_neg (by decide)]
  refine wpAny_bind (slicePart_none (wpAny_bind (slicePart_none (wpAny_bind (wpAny_pure ?_)))))
  show wpAny _ _ (match Builtin.Slice.sliceAdjust none none (-1) ((items.size:Nat):Int) with | (lo,hi)=>pure (lo,(-1:Int),Builtin.Slice.slicePlaces lo hi (-1))) _ _ s
  rw [adjust_rev]
  show wpAny _ _ (pure (((items.size:Nat):Int) - 1,(-1:Int),Builtin.Slice.slicePlaces (((items.size:Nat):Int) - 1) (-1) (-1))) _ _ s
  rw [places_rev]
  exact wpAny_pure hq
 refine wpAny_bind (app ?_)
 show wpAny _ _ (if (((((items.size:Nat):Int) - 1) == 0 && (-1:Int) == 1 && items.size == items.size)=true) then _ else _) _ _ s
 rw [if_neg (by rw [show ((-1:Int) == 1)=false from rfl,Bool.and_false,Bool.false_and];exact Bool.false_ne_true),pick_rev]
 first
  | exact wpAny_bind (m:=Builtin.Tuple.tupleExact _) (wpAny_newObj_type (wpAny_pure ⟨_,rfl,wpAny_pure h⟩) htake)
  | exact wpAny_bind (m:=Builtin.Tuple.tupleExact _) (wpAny_newObj_type (wpAny_bind (wpAny_pure (wpAny_pure ⟨_,rfl,wpAny_pure h⟩))) htake)
  | exact wpAny_bind (wpAny_bind (m:=Builtin.Tuple.tupleExact _) (wpAny_newObj_type (wpAny_pure (wpAny_pure ⟨_,rfl,wpAny_pure h⟩)) htake))
  | exact wpAny_bind (wpAny_bind (m:=Builtin.Tuple.tupleExact _) (wpAny_newObj_type (wpAny_pure ⟨_,rfl,wpAny_pure h⟩) htake))
end
end HT
namespace L3
open PySem PySem.Spec PyProof.Rows L2
section
variable {X:Cx} {e es:Expr} {te ts:TE} {pos p2:Pos}
theorem Vals.rev {xs:List V} {us:List Value} (r:Vals xs us):Vals xs.reverse us.reverse:=by
 induction r with
 | nil=>exact .nil
 | cons r1 r2 ih=>
  rw [List.reverse_cons,List.reverse_cons]
  exact ih.append (.cons r1 .nil)
def tRev (K:PySem.W.Frag) (te ts:TE):TE:=fun σ H Q=>te σ H fun x H1=>ts σ H1 fun y H2=>y=.int (-1)/\∃ (a:Addr) (xs:List V),x=.ref a/\SqT K H2 a xs/\∀ p,H2 p=none->Q (.ref p) (upd H2 p (.tup xs.reverse))
theorem pe_rev (he:PE X e te) (hs:PE X es ts):PE X (.Subscript e (.Slice none none (some es) p2) pos) (tRev X.K te ts):=by
 intro pins s σ H Q I h
 refine Subscript_ (thn (he pins s σ H _ I h) fun v s1 ⟨x,H1,I1,r1,q1⟩=>?_)
 refine wpAny_Slice ?_
 rw [evalPart_none,evalPart_some]
 refine wpAny_pure (wpAny_pure (thn (hs pins s1 σ H1 _ I1 q1) fun u s2 ⟨y,H2,I2,r2,q2⟩=>?_))
 obtain ⟨rfl,a,xs,rfl,hx,q⟩:=q2
 obtain ⟨tk,rfl⟩:=r2
 cases r1
 have I4:Inv X pins σ H2 { s2 with heap:=s2.heap.push { cls:=.type "slice",data:=.fields #[.none,.none,.int (-1) tk] } }:=I2.kept (t':=s2.toks) fun b ob q=>Heap.get?_push_of_some _ q
 obtain ⟨its,r,ht,hz⟩:=I4.tuple hx
 have hlen:its.toArray.size=xs.length:=by rw [List.size_toArray];exact r.length.symm
 show wpAny (model X.prog X.w) X.A (subscriptTail e (.Slice none none (some es) p2) (.ref a) (.ref s2.heap.objs.size)) (EP X pins σ Q) X.xe { s2 with heap:=s2.heap.push { cls:=.type "slice",data:=.fields #[.none,.none,.int (-1) tk] } }
 refine tail_any (ops:=[.ref a,.ref s2.heap.objs.size]) ht.typeIs PyProof.Rows.slot_tuple_getitem.lookup ?_ (by with_unfolding_all rfl)
 refine HT.getItem_tuple_rev ht (Heap.IsSliceOf.new ..) ?_ (by rw [hlen];exact hz)
 refine ⟨.ref _,_,I4.laid (t':=s2.toks) (o:=.tup xs.reverse) (fun b ob q=>Heap.get?_push_of_some _ q) (Nat.le_refl _) ?_,rfl,q _ (I4.hok.fresh (Nat.le_refl _))⟩
 exact ⟨by rw [List.length_reverse];exact hz,_,Vals.rev r,IsTup.new _ _⟩
end
end L3
namespace L3
open PySem PySem.W PySem.Calls PySem.Spec PyProof.Rows L2
theorem bits_lay {ns:List Int} (h:WData.layableAll [WData.list (ns.map WData.int)]=true):∀ m ∈ ns,Builtin.Int.intBits m<=1048576:=fun m hm=>by
 have h1:(WData.list (ns.map WData.int)).layable=true:=layableW_arg h _ List.mem_cons_self
 have h2:(WData.int m).layable=true:=layableW_item h1 _ (List.mem_map.mpr ⟨m,hm,rfl⟩)
 exact PyData.bits_of_layable (layable0_of_all (lay0_int h2))
theorem walk_ofB {l:PySem.W.OpenLaw} {n k:Nat} {q:Program} {loose:List Str} {XP:(Str->Option Value)->Heap->Prop} {YP:World->Heap->Prop} {d:DefRec} {K:Params->PySem.W.Frag} {CX:World->CXT} {sp:World->Sp} {x:Str}
  (hn:l.most=some n) (hn2:n<=sizeLine) (hdf:d.params.defaults=[]) (hr:Room k callerA) (hY:∀ (w:World) (h:Heap),YP w h->(K w.params).In h)
  (F:∀ (w:World) (mg:Str->Option Value) (fa:Addr) (h:Heap),(K w.params).In h->h.Ns mainGlobals mg->mg d.name=some (.ref fa) →
   ∃ fd:FuncData,(∀ (s:Shared) (u:Value),BindsTo s fd ⟨[u],[]⟩ [(x,u)])/\∀ base:Heap,(K w.params).In base->base.Ns mainGlobals mg->FnOk l.prog w (K w.params) mg base (CX w) k fa fd [x] (sp w))
  (hsp:∀ (w:World) (H:Hp) (a:Addr) (ns:List Int),ns.length<=n->(∀ m ∈ ns,Builtin.Int.intBits m<=1048576)->Only H->SqL (K w.params) H a (ns.map V.int)->sp w [.ref a] H (fun v _=>v=.bl true) fun _ _ _=>False)
  (hCX:∀ (w:World) (H:Hp) (s:Shared) (e:Value) (s':Shared),CX w [] H s (fun _ _ _=>False) e s'->False) :
  PySem.W.WalkO q loose XP YP l.row.toRowW d [] (fun f vs=>PySem.call f vs):=by
 intro w s₀ s₁ mg mb G Y fa o pm cd doc dV kV ho hd hcd hD hmg hg args vals as hpre hlay hrd hwl hlo
 obtain rfl:dV=.none:=Dflts.none hD hdf
 obtain rfl:kV=.none:=Dflts.noKw hD
 obtain ⟨a,vs,ns,rfl,rfl,hobj,hints,hlen⟩:=Att.script_of hn hpre hwl
 have KX:=hY w _ Y
 obtain ⟨fd,hb,hF⟩:=F w mg fa _ KX G.T.g hmg
 refine enter_call (codeAny_mono (law_call KX G.T.g G.T.b G.T.builtins G.T.nolimit hg hobj hints (Nat.le_trans hlen hn2) hr hF hb (fun H hO hS=>hsp w H a ns hlen (bits_lay hlay) hO hS) fun H e s'=>hCX w H s₁ e s') fun r s' hq=>?_)
 obtain ⟨rfl,h2,h3,h4⟩:=hq
 exact ⟨.inl ⟨.bool true,.bool true,[],rfl,fun _=>rfl,.bool true,Att.post_true l _,fun _=>⟨List.Pairwise.nil,fun _ hm=>(nomatch hm)⟩⟩,h2,h3,h4⟩
end L3
namespace Vm
open PySem PySem.Spec PyProof.Rows L2 L3
def swapW (es cs:List Str) (i j:Nat):Bool:=if i+1 < es.length then (if gt es i=gt es (i+1) then false else decide ((cs.drop j).take 2=[gt es (i+1),gt es i])) else false
def skips (es:List Str) (i:Nat):List Nat:=if i=0 then [] else ((List.range (es.length - i)).filter fun k=>decide (gt es (i+k)=gt es (i - 1))).map (·+1)
abbrev Way:=Sk × Nat × Nat
def w1 (es cs:List Str) (i j:Nat):List Way:=if i < es.length/\j < cs.length then [((if gt es i=gt cs j then .keep else .turn (gt cs j)),i+1,j+1)] else []
def w2 (es:List Str) (i j:Nat):List Way:=if i < es.length then [(.lose,i+1,j)] else []
def w3 (cs:List Str) (i j:Nat):List Way:=if j < cs.length then [(.add (gt cs j),i,j+1)] else []
def w4 (cs:List Str) (i j:Nat):List Way:=if 0 < j/\j < cs.length/\gt cs j=gt cs (j - 1) then [(.twice,i,j+1)] else []
def w5 (es cs:List Str) (i j:Nat):List Way:=if swapW es cs i j=true then [(.swap,i+2,j+2)] else []
def w6 (es:List Str) (i j:Nat):List Way:=(skips es i).map fun k=>(.skip k,i+k,j)
def ways (es cs:List Str) (i j:Nat):List Way:=w1 es cs i j++w2 es i j++w3 cs i j++w4 cs i j++w5 es cs i j++w6 es i j
theorem skips_in {es:List Str} {i k:Nat} (h:k ∈ skips es i):1<=k/\i+k<=es.length/\1<=i:=by
 unfold skips at h
 split at h
 ·cases h
 ·obtain ⟨m,hm,rfl⟩:=List.mem_map.mp h
  have:=List.mem_range.mp (List.mem_filter.mp hm).1
  omega
theorem ways_ok {es cs:List Str} {i j:Nat} (hc:∀ z ∈ cs,Good z) (he:es.length<=1000):∀ x ∈ ways es cs i j,okS x.1:=by
 intro x hx
 unfold ways at hx
 simp only [List.mem_append] at hx
 rcases hx with ((((h | h) | h) | h) | h) | h
 ·unfold w1 at h
  split at h
  ·rename_i hh
   rw [List.mem_singleton.mp h]
   show okS (if _ then _ else _)
   split
   ·trivial
   ·exact hc _ (gt_mem hh.2)
  ·cases h
 ·unfold w2 at h
  split at h
  ·rw [List.mem_singleton.mp h];trivial
  ·cases h
 ·unfold w3 at h
  split at h
  ·rename_i hh
   rw [List.mem_singleton.mp h];exact hc _ (gt_mem hh)
  ·cases h
 ·unfold w4 at h
  split at h
  ·rw [List.mem_singleton.mp h];trivial
  ·cases h
 ·unfold w5 at h
  split at h
  ·rw [List.mem_singleton.mp h];trivial
  ·cases h
 ·unfold w6 at h
  obtain ⟨k,hk,rfl⟩:=List.mem_map.mp h
  have:=skips_in hk
  exact ⟨this.1,by omega⟩
def wayV (t:Addr) (x:Way):List V:=[.ref t,.int ((x.2.1:Nat):Int),.int ((x.2.2:Nat):Int)]
structure WaysAt (H:Hp) (as:List Addr) (ws:List Way):Prop where
 len:as.length=ws.length
 item:∀ (k:Nat) (a:Addr) (x:Way),as[k]?=some a->ws[k]?=some x->∃ t,H a=some (.tup (wayV t x))/\H t=some (.tup (stepV x.1))
theorem WaysAt.mono {H H':Hp} {as:List Addr} {ws:List Way} (S:Same H H') (h:WaysAt H as ws):WaysAt H' as ws:=
 ⟨h.len,fun k a x e1 e2=>by
  obtain ⟨t,h1,h2⟩:=h.item k a x e1 e2
  exact ⟨t,S _ _ h1,S _ _ h2⟩⟩
theorem WaysAt.nil {H:Hp}:WaysAt H [] []:=⟨rfl,fun k a x e _=>by simp at e⟩
theorem WaysAt.set {H:Hp} {l:Addr} {ys:List V} {o:HO} {as:List Addr} {ws:List Way} (h:WaysAt H as ws) (hl:H l=some (.lst ys)):WaysAt (upd H l o) as ws:=
 ⟨h.len,fun k a x e1 e2=>by
  obtain ⟨t,h1,h2⟩:=h.item k a x e1 e2
  have n1:a ≠ l:=fun z=>by rw [z,hl] at h1;cases h1
  have n2:t ≠ l:=fun z=>by rw [z,hl] at h2;cases h2
  exact ⟨t,by rw [upd_ne n1];exact h1,by rw [upd_ne n2];exact h2⟩⟩
theorem WaysAt.app {H:Hp} {as bs:List Addr} {ws vs:List Way} (h:WaysAt H as ws) (h2:WaysAt H bs vs):WaysAt H (as++bs) (ws++vs):=by
 refine ⟨by rw [List.length_append,List.length_append,h.len,h2.len],fun i t st e1 e2=>?_⟩
 by_cases hi:i < as.length
 ·rw [List.getElem?_append_left hi] at e1
  rw [List.getElem?_append_left (by rw [<-h.len];exact hi)] at e2
  exact h.item i t st e1 e2
 ·rw [List.getElem?_append_right (by omega)] at e1
  rw [List.getElem?_append_right (by rw [<-h.len];omega),<-h.len] at e2
  exact h2.item _ t st e1 e2
theorem WaysAt.one {H:Hp} {a t:Addr} {x:Way} (h1:H a=some (.tup (wayV t x))) (h2:H t=some (.tup (stepV x.1))):WaysAt H [a] [x]:=by
 refine ⟨rfl,fun k a' x' e1 e2=>?_⟩
 cases k with
 | zero=>cases e1;cases e2;exact ⟨t,h1,h2⟩
 | succ k=>simp at e1
theorem way_add {H H2:Hp} {l t a:Addr} {as:List Addr} {ws:List Way} {x:Way} (S:Same H H2) (hl:H l=none) (h1:H2 l=some (.lst (as.map V.ref))) (hW:WaysAt H2 as ws) (ht:H2 t=none) (ha:upd H2 t (.tup (stepV x.1)) a=none) :
  upd (upd H2 t (.tup (stepV x.1))) a (.tup (wayV t x)) l=some (.lst (as.map V.ref)) ∧
  upd (upd (upd H2 t (.tup (stepV x.1))) a (.tup (wayV t x))) l (.lst (as.map V.ref++[.ref a])) l=some (.lst ((as++[a]).map V.ref)) ∧
  Same H (upd (upd (upd H2 t (.tup (stepV x.1))) a (.tup (wayV t x))) l (.lst (as.map V.ref++[.ref a]))) ∧
  WaysAt (upd (upd (upd H2 t (.tup (stepV x.1))) a (.tup (wayV t x))) l (.lst (as.map V.ref++[.ref a]))) (as++[a]) (ws++[x]):=by
 have S1:=same_upd (o:=.tup (stepV x.1)) ht
 have S2:=same_upd (o:=.tup (wayV t x)) ha
 have k1:=S2 _ _ (S1 _ _ h1)
 refine ⟨k1,by rw [upd_same,List.map_append];rfl,same_to ((S.trans S1).trans S2) hl,?_⟩
 refine WaysAt.set ?_ k1
 exact ((hW.mono S1).mono S2).app (WaysAt.one upd_same (S2 _ _ upd_same))
theorem cutV_two (cs:List Str) (j:Nat):cutV (cs.map V.str) (some ((j:Nat):Int)) (some (((j:Nat):Int)+2))=((cs.drop j).take 2).map V.str:=by
 have e:((j:Nat):Int)+2=((j+2:Nat):Int):=by omega
 unfold cutV
 rw [e,HT.sIx_nat,HT.sIx_nat,List.length_map,<-List.map_drop,<-List.map_take]
 congr 1
 by_cases h:j<=cs.length
 ·rw [Nat.min_eq_left h]
  by_cases h2:j+2<=cs.length
  ·rw [Nat.min_eq_left h2,Nat.add_sub_cancel_left]
  ·rw [Nat.min_eq_right (by omega),List.take_of_length_le (by rw [List.length_drop];omega),List.take_of_length_le (by rw [List.length_drop];omega)]
 ·rw [Nat.min_eq_right (by omega),Nat.min_eq_right (by omega),List.drop_of_length_le (Nat.le_refl _),List.drop_of_length_le (by omega)]
  simp
theorem cutTup {K:PySem.W.Frag} {H:Hp} {a:Addr} {xs:List V} {lo hi:Option Int} {Q:VK} (h:SqT K H a xs) (q:∀ p H',Same H H'->SqT K H' p (cutV xs lo hi)->Q (.ref p) H'):rSlTA K (.ref a) lo hi H Q:=by
 refine ⟨a,xs,rfl,h,fun hw=>q a H (Same.refl _) ?_,fun _ p hp=>q p _ (same_upd hp) (SqT.of upd_same)⟩
 have e:cutV xs lo hi=xs:=by
  unfold cutV
  rw [hw.1,hw.2,List.drop_zero,Nat.sub_zero,List.take_length]
 rw [e];exact h
theorem cutTake {α:Type} (g:α->V) (xs:List α) (n:Nat):cutV (xs.map g) none (some ((n:Nat):Int))=(xs.take n).map g:=by
 unfold cutV
 rw [HT.sIx_none,HT.sIx_nat,List.drop_zero,Nat.sub_zero,List.length_map,<-List.map_take]
 congr 1
 by_cases h:n<=xs.length
 ·rw [Nat.min_eq_left h]
 ·rw [Nat.min_eq_right (by omega),List.take_length,List.take_of_length_le (by omega)]
end Vm
namespace Vm
open PySem PySem.Spec PyProof.Rows L2 L3
abbrev Tb:=Nat->Nat->Option Int
def Tb.put (T:Tb) (d w:Nat) (v:Int):Tb:=fun a b=>if a=d/\b=w then some v else T a b
theorem Tb.put_same (T:Tb) (d w:Nat) (v:Int):T.put d w v d w=some v:=by simp [Tb.put]
theorem Tb.put_ne (T:Tb) {d w a b:Nat} (v:Int) (h:¬ (a=d/\b=w)):T.put d w v a b=T a b:=by simp [Tb.put,h]
def Tb.rel (pr:Nat->Sk->Int) (i j:Nat) (T:Tb) (x:Way):Tb:=
 match T i j with
 | none=>T
 | some t=>match T x.2.1 x.2.2 with
  | none=>T.put x.2.1 x.2.2 (t+pr i x.1)
  | some u=>if t+pr i x.1 < u then T.put x.2.1 x.2.2 (t+pr i x.1) else T
structure TabI (pr:Nat->Sk->Int) (Dn:Nat->Nat->Way->Prop) (T:Tb):Prop where
 z:T 0 0=some 0
 le:∀ a b x,Dn a b x->∃ t u,T a b=some t/\T x.2.1 x.2.2=some u/\u<=t+pr a x.1
 eq:∀ a b u,T a b=some u->¬ (a=0/\b=0)->∃ a' b' t x,Dn a' b' x/\x.2.1=a/\x.2.2=b/\T a' b'=some t/\u=t+pr a' x.1
theorem TabI.congr {pr:Nat->Sk->Int} {D D':Nat->Nat->Way->Prop} {T:Tb} (h:TabI pr D T) (e:∀ a b x,D a b x ↔ D' a b x):TabI pr D' T:=
 ⟨h.z,fun a b x k=>h.le a b x ((e a b x).mpr k),fun a b u hu hn=>by
  obtain ⟨a',b',t,x,k,r⟩:=h.eq a b u hu hn
  exact ⟨a',b',t,x,(e a' b' x).mp k,r⟩⟩
theorem TabI.more {pr:Nat->Sk->Int} {Dn:Nat->Nat->Way->Prop} {T:Tb} {i j:Nat} {t:Int} {x:Way} (h:TabI pr Dn T) (ht:T i j=some t) (h0:¬ (x.2.1=0/\x.2.2=0)) (hs:¬ (i=x.2.1/\j=x.2.2))
  (hd:∀ a b y,Dn a b y->¬ (a=x.2.1/\b=x.2.2)):TabI pr (fun a b y=>Dn a b y\/(a=i/\b=j/\y=x)) (T.rel pr i j x):=by
 have key:∀ v:Int,v=t+pr i x.1->(∀ u,T x.2.1 x.2.2=some u->v<=u)->TabI pr (fun a b y=>Dn a b y\/(a=i/\b=j/\y=x)) (T.put x.2.1 x.2.2 v):=by
  intro v hv hle
  refine ⟨?_,?_,?_⟩
  ·rw [Tb.put_ne _ _ (fun z=>h0 ⟨z.1.symm,z.2.symm⟩)];exact h.z
  ·rintro a b y (k | ⟨rfl,rfl,rfl⟩)
   ·obtain ⟨t',u',h1,h2,h3⟩:=h.le a b y k
    refine ⟨t',?_⟩
    rw [Tb.put_ne _ _ (hd a b y k)]
    by_cases e:y.2.1=x.2.1/\y.2.2=x.2.2
    ·refine ⟨v,h1,?_,?_⟩
     ·rw [e.1,e.2,Tb.put_same]
     ·have:=hle u' (by rw [<-e.1,<-e.2];exact h2)
      omega
    ·exact ⟨u',h1,by rw [Tb.put_ne _ _ e];exact h2,h3⟩
   ·exact ⟨t,v,by rw [Tb.put_ne _ _ hs];exact ht,Tb.put_same ..,by omega⟩
  ·intro a b u hu hn
   by_cases e:a=x.2.1/\b=x.2.2
   ·rw [e.1,e.2,Tb.put_same] at hu
    refine ⟨i,j,t,x,.inr ⟨rfl,rfl,rfl⟩,e.1.symm,e.2.symm,by rw [Tb.put_ne _ _ hs];exact ht,?_⟩
    injection hu with hu;omega
   ·rw [Tb.put_ne _ _ e] at hu
    obtain ⟨a',b',t',y,k,e1,e2,e3,e4⟩:=h.eq a b u hu hn
    exact ⟨a',b',t',y,.inl k,e1,e2,by rw [Tb.put_ne _ _ (hd a' b' y k)];exact e3,e4⟩
 unfold Tb.rel
 simp only [ht]
 cases hu:T x.2.1 x.2.2 with
 | none=>exact key _ rfl (fun u e=>by rw [hu] at e;cases e)
 | some u=>
  simp only []
  by_cases hlt:t+pr i x.1 < u
  ·rw [if_pos hlt]
   exact key _ rfl (fun u' e=>by rw [hu] at e;injection e with e;omega)
  ·rw [if_neg hlt]
   refine ⟨h.z,?_,?_⟩
   ·rintro a b y (k | ⟨rfl,rfl,rfl⟩)
    ·exact h.le a b y k
    ·exact ⟨t,u,ht,hu,by omega⟩
   ·intro a b u' hu' hn
    obtain ⟨a',b',t',y,k,r⟩:=h.eq a b u' hu' hn
    exact ⟨a',b',t',y,.inl k,r⟩
theorem Tb.rel_ne (pr:Nat->Sk->Int) (T:Tb) {i j a b:Nat} {x:Way} (h:¬ (a=x.2.1/\b=x.2.2)):T.rel pr i j x a b=T a b:=by
 unfold Tb.rel
 cases T i j with
 | none=>rfl
 | some t=>
  cases T x.2.1 x.2.2 with
  | none=>exact Tb.put_ne _ _ h
  | some u=>
   show (if t+pr i x.1 < u then _ else T:Tb) a b=T a b
   by_cases e:t+pr i x.1 < u
   ·rw [if_pos e];exact Tb.put_ne _ _ h
   ·rw [if_neg e]
def Fwd (m n:Nat) (E:Nat->Nat->List Way):Prop:=∀ i j,i<=m->j<=n->∀ x ∈ E i j,x.2.1<=m/\x.2.2<=n/\i<=x.2.1/\j<=x.2.2/\(i < x.2.1\/j < x.2.2)
def Bef (m n i j a b:Nat):Prop:=a<=m/\b<=n/\(a < i\/(a=i/\b < j))
def Gone (m n:Nat) (E:Nat->Nat->List Way) (i j:Nat) (ws:List Way):Nat->Nat->Way->Prop:=fun a b x=>(Bef m n i j a b/\x ∈ E a b)\/(a=i/\b=j/\x ∈ ws)
theorem Gone.zero {m n:Nat} {E:Nat->Nat->List Way} {a b:Nat} {x:Way}:¬ Gone m n E 0 0 [] a b x:=by
 rintro (⟨⟨_,_,q⟩,_⟩ | ⟨_,_,z⟩)
 ·omega
 ·simp at z
def Come (m n:Nat) (E:Nat->Nat->List Way):Prop:=∀ i j,i<=m->j<=n->¬ (i=0/\j=0)->∃ a b x,Bef m n i j a b/\x ∈ E a b/\x.2.1=i/\x.2.2=j
theorem TabI.here {pr:Nat->Sk->Int} {m n i j:Nat} {E:Nat->Nat->List Way} {T:Tb} (hC:Come m n E) (h:TabI pr (Gone m n E i j []) T) (hi:i<=m) (hj:j<=n):∃ t,T i j=some t:=by
 by_cases e:i=0/\j=0
 ·exact ⟨0,by rw [e.1,e.2];exact h.z⟩
 ·obtain ⟨a,b,x,h1,h2,e1,e2⟩:=hC i j hi hj e
  obtain ⟨_,u,_,hu,_⟩:=h.le a b x (.inl ⟨h1,h2⟩)
  exact ⟨u,by rw [<-e1,<-e2];exact hu⟩
structure Least (pr:Nat->Sk->Int) (m n:Nat) (E:Nat->Nat->List Way) (F:Nat->Nat->Int):Prop where
 z:F 0 0=0
 le:∀ i j,i<=m->j<=n->∀ x ∈ E i j,F x.2.1 x.2.2<=F i j+pr i x.1
 eq:∀ i j,i<=m->j<=n->¬ (i=0/\j=0)->∃ a b x,Bef m n i j a b/\x ∈ E a b/\x.2.1=i/\x.2.2=j/\F i j=F a b+pr a x.1
theorem TabI.least {pr:Nat->Sk->Int} {m n:Nat} {E:Nat->Nat->List Way} {T:Tb} (hE:Fwd m n E) (hC:Come m n E) (h:TabI pr (Gone m n E (m+1) 0 []) T):(∀ i j,i<=m->j<=n->∃ t,T i j=some t)/\Least pr m n E (fun i j=>(T i j).getD 0):=by
 have here:∀ i j,i<=m->j<=n->∃ t,T i j=some t:=by
  intro i j hi hj
  by_cases e:i=0/\j=0
  ·exact ⟨0,by rw [e.1,e.2];exact h.z⟩
  ·obtain ⟨a,b,x,h1,h2,e1,e2⟩:=hC i j hi hj e
   obtain ⟨_,u,_,hu,_⟩:=h.le a b x (.inl ⟨⟨h1.1,h1.2.1,by have:=h1.1;omega⟩,h2⟩)
   exact ⟨u,by rw [<-e1,<-e2];exact hu⟩
 refine ⟨here,?_,?_,?_⟩
 ·show (T 0 0).getD 0=0
  rw [h.z];rfl
 ·intro i j hi hj x hx
  obtain ⟨t,u,h1,h2,h3⟩:=h.le i j x (.inl ⟨⟨hi,hj,by omega⟩,hx⟩)
  show (T x.2.1 x.2.2).getD 0<=(T i j).getD 0+_
  rw [h1,h2];exact h3
 ·intro i j hi hj hn
  obtain ⟨u,hu⟩:=here i j hi hj
  obtain ⟨a,b,t,x,hg,e1,e2,e3,e4⟩:=h.eq i j u hu hn
  obtain ⟨⟨b1,b2,_⟩,hx⟩ | ⟨_,_,z⟩:=hg
  ·have:=hE a b b1 b2 x hx
   refine ⟨a,b,x,⟨b1,b2,by omega⟩,hx,e1,e2,?_⟩
   show (T i j).getD 0=(T a b).getD 0+_
   rw [hu,e3];exact e4
  ·simp at z
structure Rest (pr:Nat->Sk->Int) (m n:Nat) (E:Nat->Nat->List Way) (R:Nat->Nat->Int):Prop where
 z:R m n=0
 le:∀ i j,i<=m->j<=n->∀ x ∈ E i j,R i j<=pr i x.1+R x.2.1 x.2.2
 eq:∀ i j,i<=m->j<=n->¬ (i=m/\j=n)->∃ x ∈ E i j,R i j=pr i x.1+R x.2.1 x.2.2
theorem ways_fwd (es cs:List Str):Fwd es.length cs.length (ways es cs):=by
 intro i j hi hj x hx
 unfold ways at hx
 simp only [List.mem_append] at hx
 rcases hx with ((((h | h) | h) | h) | h) | h
 ·unfold w1 at h
  split at h
  ·rw [List.mem_singleton] at h;subst h;refine ⟨?_,?_,?_,?_,?_⟩ <;> simp only [] <;> omega
  ·simp at h
 ·unfold w2 at h
  split at h
  ·rw [List.mem_singleton] at h;subst h;refine ⟨?_,?_,?_,?_,?_⟩ <;> simp only [] <;> omega
  ·simp at h
 ·unfold w3 at h
  split at h
  ·rw [List.mem_singleton] at h;subst h;refine ⟨?_,?_,?_,?_,?_⟩ <;> simp only [] <;> omega
  ·simp at h
 ·unfold w4 at h
  split at h
  ·rw [List.mem_singleton] at h;subst h;refine ⟨?_,?_,?_,?_,?_⟩ <;> simp only [] <;> omega
  ·simp at h
 ·unfold w5 at h
  split at h
  ·rename_i hs
   rw [List.mem_singleton] at h;subst h
   unfold swapW at hs
   split at hs
   ·split at hs
    ·cases hs
    ·have hs:=of_decide_eq_true hs
     have hl:=congrArg List.length hs
     simp only [List.length_take,List.length_drop,List.length_cons,List.length_nil] at hl
     refine ⟨?_,?_,?_,?_,?_⟩ <;> simp only [] <;> omega
   ·cases hs
  ·simp at h
 ·unfold w6 at h
  obtain ⟨k,hk,rfl⟩:=List.mem_map.mp h
  have:=skips_in hk
  refine ⟨?_,?_,?_,?_,?_⟩ <;> simp only [] <;> omega
theorem ways_come (es cs:List Str):Come es.length cs.length (ways es cs):=by
 intro i j hi hj hn
 by_cases h0:j=0
 ·obtain ⟨i',rfl⟩:∃ i',i=i'+1:=⟨i - 1,by omega⟩
  refine ⟨i',j,(.lose,i'+1,j),⟨by omega,hj,by omega⟩,?_,rfl,rfl⟩
  unfold ways
  simp only [List.mem_append]
  refine .inl (.inl (.inl (.inl (.inr ?_))))
  unfold w2
  rw [if_pos (by omega)]
  exact List.mem_singleton.mpr rfl
 ·obtain ⟨j',rfl⟩:∃ j',j=j'+1:=⟨j - 1,by omega⟩
  refine ⟨i,j',(.add (gt cs j'),i,j'+1),⟨hi,by omega,by omega⟩,?_,rfl,rfl⟩
  unfold ways
  simp only [List.mem_append]
  refine .inl (.inl (.inl (.inr ?_)))
  unfold w3
  rw [if_pos (by omega)]
  exact List.mem_singleton.mpr rfl
theorem ways_some (es cs:List Str) {i j:Nat} (hi:i<=es.length) (hj:j<=cs.length) (hn:¬ (i=es.length/\j=cs.length)):ways es cs i j ≠ []:=by
 intro z
 by_cases h:i < es.length
 ·have:(Sk.lose,i+1,j) ∈ ways es cs i j:=by
   unfold ways
   simp only [List.mem_append]
   refine .inl (.inl (.inl (.inl (.inr ?_))))
   unfold w2
   rw [if_pos h]
   exact List.mem_singleton.mpr rfl
  rw [z] at this;simp at this
 ·have:(Sk.add (gt cs j),i,j+1) ∈ ways es cs i j:=by
   unfold ways
   simp only [List.mem_append]
   refine .inl (.inl (.inl (.inr ?_)))
   unfold w3
   rw [if_pos (by omega)]
   exact List.mem_singleton.mpr rfl
  rw [z] at this;simp at this
theorem ways_none (es cs:List Str):ways es cs es.length cs.length=[]:=by
 cases h:ways es cs es.length cs.length with
 | nil=>rfl
 | cons x r=>
  have:=ways_fwd es cs _ _ (Nat.le_refl _) (Nat.le_refl _) x (by rw [h];simp)
  omega
theorem TabI.step {pr:Nat->Sk->Int} {m n i j:Nat} {E:Nat->Nat->List Way} (hE:Fwd m n E) (hi:i<=m) (hj:j<=n) {done:List Way} {T:Tb} {t:Int} {x:Way} (hx:x ∈ E i j) (ht:T i j=some t) (h:TabI pr (Gone m n E i j done) T) :
  TabI pr (Gone m n E i j (done++[x])) (T.rel pr i j x)/\T.rel pr i j x i j=some t:=by
 have hx':=hE i j hi hj x hx
 refine ⟨?_,by rw [Tb.rel_ne pr T (by omega)];exact ht⟩
 refine (h.more (i:=i) (j:=j) ht (by omega) (by omega) ?_).congr ?_
 ·rintro a b y (⟨⟨_,_,q⟩,_⟩ | ⟨rfl,rfl,_⟩) <;> omega
 ·intro a b y
  unfold Gone
  simp only [List.mem_append,List.mem_singleton]
  constructor
  ·rintro ((k | ⟨e1,e2,e3⟩) | ⟨e1,e2,e3⟩)
   ·exact .inl k
   ·exact .inr ⟨e1,e2,.inl e3⟩
   ·exact .inr ⟨e1,e2,.inr e3⟩
  ·rintro (k | ⟨e1,e2,e3 | e3⟩)
   ·exact .inl (.inl k)
   ·exact .inl (.inr ⟨e1,e2,e3⟩)
   ·exact .inr ⟨e1,e2,e3⟩
theorem TabI.start {pr:Nat->Sk->Int} {m n:Nat} {E:Nat->Nat->List Way}:TabI pr (Gone m n E 0 0 []) (Tb.put (fun _ _=>none) 0 0 0):=by
 refine ⟨Tb.put_same ..,fun a b x k=>absurd k Gone.zero,fun a b u hu hn=>?_⟩
 rw [Tb.put_ne _ _ hn] at hu
 cases hu
theorem ways_turn {es cs:List Str} {i j:Nat} {x:Way} (h:x ∈ ways es cs i j) {z:Str} (e:x.1=.turn z):i < es.length:=by
 unfold ways at h
 simp only [List.mem_append] at h
 rcases h with ((((h | h) | h) | h) | h) | h
 ·unfold w1 at h
  split at h
  ·omega
  ·simp at h
 ·unfold w2 at h
  split at h
  ·omega
  ·simp at h
 ·unfold w3 at h
  split at h
  ·rw [List.mem_singleton] at h;subst h;cases e
  ·simp at h
 ·unfold w4 at h
  split at h
  ·rw [List.mem_singleton] at h;subst h;cases e
  ·simp at h
 ·unfold w5 at h
  split at h
  ·rw [List.mem_singleton] at h;subst h;cases e
  ·simp at h
 ·unfold w6 at h
  obtain ⟨k,hk,rfl⟩:=List.mem_map.mp h
  cases e
def RestAt (pr:Nat->Sk->Int) (E:Nat->Nat->List Way) (T:Tb) (a b:Nat):Prop:=∃ v,T a b=some v/\(E a b=[]->v=0)/\(∀ x ∈ E a b,∃ u,T x.2.1 x.2.2=some u/\v<=pr a x.1+u)/\(E a b ≠ []->∃ x ∈ E a b,∃ u,T x.2.1 x.2.2=some u/\v=pr a x.1+u)
def RestI (pr:Nat->Sk->Int) (m n:Nat) (E:Nat->Nat->List Way) (i j:Nat) (T:Tb):Prop:=∀ a b,a<=m->b<=n->(i < a\/(a=i/\j < b))->RestAt pr E T a b
def leastOf:List Int->Int
 | []=>0
 | x :: r=>r.foldl min x
theorem foldl_min_le:∀ (r:List Int) (x:Int),r.foldl min x<=x/\∀ y ∈ r,r.foldl min x<=y
 | [],x=>⟨Int.le_refl _,fun _ z=>nomatch z⟩
 | y :: r,x=>by
  have ih:=foldl_min_le r (min x y)
  rw [List.foldl_cons]
  refine ⟨by have:=ih.1;omega,fun z hz=>?_⟩
  rcases List.mem_cons.mp hz with rfl | hz
  ·have:=ih.1;omega
  ·exact ih.2 z hz
theorem foldl_min_mem:∀ (r:List Int) (x:Int),r.foldl min x=x\/r.foldl min x ∈ r
 | [],x=>.inl rfl
 | y :: r,x=>by
  rw [List.foldl_cons]
  rcases foldl_min_mem r (min x y) with h | h
  ·rcases Int.le_total x y with c | c
   ·rw [Int.min_eq_left c] at h ⊢;exact .inl h
   ·rw [Int.min_eq_right c] at h ⊢;exact .inr (by rw [h];exact List.mem_cons_self)
  ·exact .inr (List.mem_cons_of_mem _ h)
theorem leastOf_le {l:List Int} {y:Int} (h:y ∈ l):leastOf l<=y:=by
 cases l with
 | nil=>cases h
 | cons x r=>
  show r.foldl min x<=y
  rcases List.mem_cons.mp h with rfl | h
  ·exact (foldl_min_le r _).1
  ·exact (foldl_min_le r x).2 y h
theorem leastOf_mem {l:List Int} (h:l ≠ []):leastOf l ∈ l:=by
 cases l with
 | nil=>exact absurd rfl h
 | cons x r=>
  show r.foldl min x ∈ x :: r
  rcases foldl_min_mem r x with e | e
  ·rw [e];exact List.mem_cons_self
  ·exact List.mem_cons_of_mem _ e
theorem RestI.ends {pr:Nat->Sk->Int} {m n i j:Nat} {E:Nat->Nat->List Way} {T:Tb} (hE:Fwd m n E) (h:RestI pr m n E i j T) (hi:i<=m) (hj:j<=n) {x:Way} (hx:x ∈ E i j):∃ u,T x.2.1 x.2.2=some u:=by
 have w:=hE i j hi hj x hx
 obtain ⟨v,hv,_⟩:=h x.2.1 x.2.2 w.1 w.2.1 (by omega)
 exact ⟨v,hv⟩
theorem RestI.put {pr:Nat->Sk->Int} {m n i j:Nat} {E:Nat->Nat->List Way} {T:Tb} (hE:Fwd m n E) (h:RestI pr m n E i j T) (hi:i<=m) (hj:j<=n) :
  ∀ a b,a<=m->b<=n->(i < a\/(a=i/\j<=b))->RestAt pr E (T.put i j (leastOf ((E i j).map fun x=>pr i x.1+(T x.2.1 x.2.2).getD 0))) a b:=by
 intro a b ha hb hab
 have off:∀ x ∈ E a b,¬ (x.2.1=i/\x.2.2=j):=fun x hx=>by
  have:=hE a b ha hb x hx
  omega
 by_cases e:a=i/\b=j
 ·obtain ⟨rfl,rfl⟩:=e
  refine ⟨_,Tb.put_same ..,fun z=>?_,fun x hx=>?_,fun z=>?_⟩
  ·rw [z];rfl
  ·obtain ⟨u,hu⟩:=h.ends hE ha hb hx
   refine ⟨u,by rw [Tb.put_ne _ _ (off x hx)];exact hu,?_⟩
   refine leastOf_le (List.mem_map.mpr ⟨x,hx,?_⟩)
   rw [hu];rfl
  ·obtain ⟨x,hx,ex⟩:=List.mem_map.mp (leastOf_mem (l:=(E a b).map fun x=>pr a x.1+(T x.2.1 x.2.2).getD 0) (fun c=>z (List.map_eq_nil_iff.mp c)))
   obtain ⟨u,hu⟩:=h.ends hE ha hb hx
   refine ⟨x,hx,u,by rw [Tb.put_ne _ _ (off x hx)];exact hu,?_⟩
   rw [<-ex,hu];rfl
 ·obtain ⟨v,h1,h2,h3,h4⟩:=h a b ha hb (by omega)
  refine ⟨v,by rw [Tb.put_ne _ _ e];exact h1,h2,fun x hx=>?_,fun z=>?_⟩
  ·obtain ⟨u,hu,hl⟩:=h3 x hx
   exact ⟨u,by rw [Tb.put_ne _ _ (off x hx)];exact hu,hl⟩
  ·obtain ⟨x,hx,u,hu,he⟩:=h4 z
   exact ⟨x,hx,u,by rw [Tb.put_ne _ _ (off x hx)];exact hu,he⟩
theorem rest_of {pr:Nat->Sk->Int} {m n:Nat} {E:Nat->Nat->List Way} {T:Tb} (h:∀ a b,a<=m->b<=n->RestAt pr E T a b) (hN:E m n=[]) (hS:∀ i j,i<=m->j<=n->¬ (i=m/\j=n)->E i j ≠ []) :
  (∀ i j,i<=m->j<=n->∃ v,T i j=some v)/\Rest pr m n E (fun i j=>(T i j).getD 0):=by
 refine ⟨fun i j hi hj=>by obtain ⟨v,hv,_⟩:=h i j hi hj;exact ⟨v,hv⟩,?_,?_,?_⟩
 ·obtain ⟨v,h1,h2,_⟩:=h m n (Nat.le_refl _) (Nat.le_refl _)
  show (T m n).getD 0=0
  rw [h1,h2 hN];rfl
 ·intro i j hi hj x hx
  obtain ⟨v,h1,_,h3,_⟩:=h i j hi hj
  obtain ⟨u,hu,hl⟩:=h3 x hx
  show (T i j).getD 0<=_+(T x.2.1 x.2.2).getD 0
  rw [h1,hu];exact hl
 ·intro i j hi hj hn
  obtain ⟨v,h1,_,_,h4⟩:=h i j hi hj
  obtain ⟨x,hx,u,hu,he⟩:=h4 (hS i j hi hj hn)
  refine ⟨x,hx,?_⟩
  show (T i j).getD 0=_+(T x.2.1 x.2.2).getD 0
  rw [h1,hu];exact he
end Vm
namespace L3
open PySem PySem.Spec PyProof.Rows L2
section
variable {pg:Program} {wo:World} {Ar:Around} {Ex:Value->Shared->Prop} {st:Shared}
end
section
variable {X:Cx}
end
end L3
namespace Vm
open PySem PySem.Spec PyProof.Rows L2 L3
end Vm
namespace L2
open PySem PySem.Spec PyProof.Rows
section
variable {κ:Type} [DecidableEq κ]
def valV (kvs:List (κ × V)) (k:κ):Option V:=(kvs.find? fun kv=>decide (kv.1=k)).map (·.2)
def putK (kvs:List (κ × V)) (k:κ) (v:V):List (κ × V):=
 if (kvs.any fun kv=>decide (kv.1=k))=true then kvs.map (fun kv=>if kv.1=k then (kv.1,v) else kv) else kvs++[(k,v)]
theorem valV_pos {p:κ × V} {r:List (κ × V)} {k:κ} (e:p.1=k):valV (p :: r) k=some p.2:=by simp [valV,List.find?_cons,e]
theorem valV_neg {p:κ × V} {r:List (κ × V)} {k:κ} (e:¬ p.1=k):valV (p :: r) k=valV r k:=by simp [valV,List.find?_cons,e]
theorem length_putK (kvs:List (κ × V)) (k:κ) (v:V):(putK kvs k v).length<=kvs.length+1:=by
 unfold putK
 split
 ·rw [List.length_map];omega
 ·rw [List.length_append,List.length_cons,List.length_nil];omega
theorem RelO.getD {o:Option V} {u:Option Value} {d:V} {d':Value} (r:RelO o u) (rd:RelV d d'):RelV (o.getD d) (u.getD d'):=by
 cases o with
 | none=>cases u with
  | none=>exact rd
  | some _=>exact (show False from r).elim
 | some _=>cases u with
  | none=>exact (show False from r).elim
  | some _=>exact r
theorem KV.val {kvs:List (κ × V)} {vs:List (κ × Value)} (r:KV kvs vs) (k:κ):RelO (valV kvs k) (valueAt vs k):=by
 unfold KV at r
 induction r with
 | nil=>exact True.intro
 | @cons p q ps qs h t ih=>
  obtain ⟨h1,h2⟩:=h
  by_cases e:p.1=k
  ·have e':q.1=k:=h1.symm.trans e
   have b:valueAt (q :: qs) k=some q.2:=by simp [valueAt,List.find?_cons,e']
   rw [valV_pos e,b];exact h2
  ·have e':¬ q.1=k:=fun z=>e (h1.trans z)
   have b:valueAt (q :: qs) k=valueAt qs k:=by simp [valueAt,List.find?_cons,e']
   rw [valV_neg e,b];exact ih
theorem KV.any {kvs:List (κ × V)} {vs:List (κ × Value)} (r:KV kvs vs) (k:κ):(kvs.any fun kv=>decide (kv.1=k))=vs.any fun kv=>decide (kv.1=k):=by
 unfold KV at r
 induction r with
 | nil=>rfl
 | cons h t ih=>rw [List.any_cons,List.any_cons,ih,h.1]
theorem KV.repl {kvs:List (κ × V)} {vs:List (κ × Value)} (r:KV kvs vs) (k:κ) {y:V} {u:Value} (ry:RelV y u) :
  KV (kvs.map fun kv=>if kv.1=k then (kv.1,y) else kv) (vs.map fun kv=>if kv.1=k then (kv.1,u) else kv):=by
 unfold KV at r ⊢
 induction r with
 | nil=>exact .nil
 | @cons p q ps qs h t ih=>
  rw [List.map_cons,List.map_cons]
  refine .cons ?_ ih
  obtain ⟨h1,h2⟩:=h
  by_cases e:p.1=k
  ·rw [if_pos e,if_pos (h1.symm.trans e)];exact ⟨h1,ry⟩
  ·rw [if_neg e,if_neg (fun z=>e (h1.trans z))];exact ⟨h1,h2⟩
theorem KV.put {kvs:List (κ × V)} {vs:List (κ × Value)} (r:KV kvs vs) (k:κ) {y:V} {u:Value} (ry:RelV y u):KV (putK kvs k y) (stored vs k u):=by
 unfold putK stored
 rw [r.any k]
 by_cases e:(vs.any fun kv=>decide (kv.1=k))=true
 ·rw [if_pos e,if_pos e];exact r.repl k ry
 ·rw [if_neg e,if_neg e];exact Paired.snoc r ⟨rfl,ry⟩
end
theorem kV_is {P:Program} {w:World} {k:Key} {u:Value} (r:RelV (kV k) u):(mixKind P w).is k u=true:=by
 cases k with
 | inl i=>obtain ⟨t,e⟩:=(show ∃ t,u=Value.int i t from r);subst e;exact mixKind_int P w i t
 | inr x=>obtain ⟨t,e⟩:=(show ∃ t,u=Value.str x t from r);subst e;exact mixKind_str P w x t
section
variable {P:Program} {w:World} {H:Hp} {h:Heap} {a:Addr}
theorem rd_of {u:HO} (ok:HOk P w H h) (e:Rd H a u):ObjOk P w H h a u:=e.ok ok
theorem dk_rd {kvs:List (Key × V)} (ok:HOk P w H h) (e:Rd H a (.dK kvs)):kvs.length<=sizeLine/\(a == sysModules)=false/\∃ vs,KV kvs vs/\h.DictOf (mixKind P w) a vs:=
 show ObjOk P w H h a (.dK kvs) from rd_of ok e
theorem dk_of {kvs:List (Key × V)} (ok:HOk P w H h) (e:H a=some (.dK kvs)):kvs.length<=sizeLine/\(a == sysModules)=false/\∃ vs,KV kvs vs/\h.DictOf (mixKind P w) a vs:=dk_rd ok (.inl e)
end
section
variable {X:Cx} {pins:List (Addr × Obj)} {σ:St} {H:Hp} {s:Shared} {a:Addr} {y v:V} {u r:Value} {o:Option V} {A:Around} {E:Value->Shared->Prop}
theorem Inv.big (I:Inv X pins σ H s):sysModules < s.heap.objs.size:=by
 have h:mainGlobals < s.heap.objs.size:=(I.mod.glob.keeps I.bk).lt
 exact Nat.lt_trans (by decide) h
theorem d_write {h':Heap} {t':Nat} {ob:HO} (I:Inv X pins σ H s) (mu:Mut (H a)) (hs:Heap.SameBut a s.heap h') (he:∃ q,h'.get? a=some q) (new:ObjOk X.prog X.w (upd H a ob) h' a ob) :
  Inv X pins σ (upd H a ob) { s with heap:=h',toks:=t' }:=
 I.write (x:=a) (e:=a) mu (.inl rfl) (fun b q hb z=>(hs.2 b hb).trans z) he new
theorem dk_new {P:Program} {w:World} {H':Hp} {h':Heap} {kvs:List (Key × V)} {vs:List (Key × Value)} (z:kvs.length<=sizeLine) (hd:(a == sysModules)=false) (rel:KV kvs vs) (dd:h'.DictOf (mixKind P w) a vs) :
  ObjOk P w H' h' a (.dK kvs):=⟨z,hd,vs,rel,dd⟩
end
def NoSl (i:Expr):Prop:=∀ ov iv,subscripted i false ov iv=operate [ov,iv] (getItem ov iv)
theorem subD_of {prog:Program} {w:World} {A:Around} {E:Value->Shared->Prop} {s:Shared} {env:Env} {value slice:Expr} {pos:Pos} {T id:String} {Q:Value->Shared->Prop}
  (hl:typeLookup (.type T) "__getitem__" = pure (some (.builtin id))) (hs:NoSl slice)
  (h:wpAny (model prog w) A (eval value env) (fun o s₁=>wpAny (model prog w) A (eval slice env) (fun i s₂=>s₂.TypeIs o T/\wpAny (model prog w) A (getItem o i) Q E s₂) E s₁) E s) :
  wpAny (model prog w) A (eval (.Subscript value slice pos) env) Q E s:=by
 refine Subscript_ (wpAny_mono h (fun o s₁ h₁=>wpAny_mono h₁ (fun i s₂ h₂=>?_) fun _ _ x=>x) fun _ _ x=>x)
 obtain ⟨hT,h₂⟩:=h₂
 unfold subscriptTail
 refine wpAny_bind ?_
 rw [getitemInPython_of_ne hT.not_modules]
 refine wpAny_bind (wpAny_specialOf hT hl ?_)
 have fin:wpAny (model prog w) A (subscripted slice false o i) (fun r s₃=>wpAny (model prog w) A (letTemporaryGo value o r >>= fun _=>pure r) Q E s₃) E s₂:=by
  rw [hs o i]
  exact wpAny_operating (wpAny_mono h₂ (fun r s₃ h₃=>wpAny_bind (wpAny_letTemporaryGo (wpAny_pure h₃))) fun _ _ x=>x)
 first
  | exact wpAny_pure (wpAny_bind fin)
  | exact wpAny_bind (wpAny_pure (wpAny_bind fin))
  | exact wpAny_bind fin
theorem dk_empty {P:Program} {w:World} {H:Hp} (h:Heap) (hb:sysModules < h.objs.size):ObjOk P w H (h.push { cls:=.type "dict",data:=.dict #[] }) h.objs.size (.dK []):=
 ⟨Nat.zero_le _,beq_eq_false_iff_ne.mpr (Ne.symm (Nat.ne_of_lt hb)),[],.nil,Heap.DictOf.new h⟩
def tPairs:List (TE × TE)->St->Hp->(List (V × V)->Hp->Prop)->Prop
 | [],_,H,Q=>Q [] H
 | (tk,tv) :: r,σ,H,Q=>tk σ H fun x H1=>tv σ H1 fun y H2=>tPairs r σ H2 fun ps H3=>Q ((x,y) :: ps) H3
abbrev VV:List (V × V)->List (Value × Value)->Prop:=Paired fun p q=>RelV p.1 q.1/\RelV p.2 q.2
def PPs (X:Cx) (pos:Pos) (keys:List (Option Expr)) (values:List Expr) (trs:List (TE × TE)):Prop:=
 ∀ (pins:List (Addr × Obj)) (s:Shared) (σ:St) (H:Hp) (Q:List (V × V)->Hp->Prop),Inv X pins σ H s->tPairs trs σ H Q →
  wpAny (model X.prog X.w) X.A (evalPairs (pairTrees keys values X.env pos)) (fun vs s'=>∃ ps H',Inv X pins σ H' s'/\VV ps vs/\Q ps H') X.xe s
theorem pps_nil {X:Cx} {pos:Pos}:PPs X pos [] [] []:=fun pins s σ H Q I h=>pairTrees_nil_walk ⟨[],H,I,.nil,h⟩
theorem pps_cons {X:Cx} {pos:Pos} {k v:Expr} {ks:List (Option Expr)} {vs:List Expr} {tk tv:TE} {trs:List (TE × TE)} (hk:PE X k tk) (hv:PE X v tv) (hr:PPs X pos ks vs trs) :
  PPs X pos (some k :: ks) (v :: vs) ((tk,tv) :: trs):=fun pins s σ H Q I h=>
 pairTrees_cons_walk (thn (hk pins s σ H _ I h) fun u s1 ⟨x,H1,I1,rx,q1⟩=>thn (hv pins s1 σ H1 _ I1 q1) fun w2 s2 ⟨y,H2,I2,ry,q2⟩=>
  thn (hr pins s2 σ H2 _ I2 q2) fun ws s3 ⟨ps,H3,I3,rel,q3⟩=>⟨(x,y) :: ps,H3,I3,.cons ⟨rx,ry⟩ rel,q3⟩)
def mergeK (kvs more:List (Key × V)):List (Key × V):=more.foldl (fun acc kv=>putK acc kv.1 kv.2) kvs
theorem KV.merge:∀ {more:List (Key × V)} {rs:List (Key × Value)} {kvs:List (Key × V)} {vs:List (Key × Value)},KV more rs->KV kvs vs->KV (mergeK kvs more) (merged vs rs):=by
 intro more rs kvs vs r
 unfold KV at r
 induction r generalizing kvs vs with
 | nil=>intro q;exact q
 | @cons p q ps qs h t ih=>
  intro r0
  have e:KV (putK kvs p.1 p.2) (stored vs q.1 q.2):=by
   have:=r0.put p.1 h.2
   rw [<-h.1];exact this
  exact ih e
theorem length_mergeK:∀ (more kvs:List (Key × V)),(mergeK kvs more).length<=kvs.length+more.length
 | [],kvs=>by show kvs.length<=kvs.length+0;omega
 | p :: r,kvs=>by
  have h1:=length_mergeK r (putK kvs p.1 p.2)
  have h2:=length_putK kvs p.1 p.2
  show (mergeK (putK kvs p.1 p.2) r).length<=_
  rw [List.length_cons];omega
theorem carries_of {P:Program} {w:World}:∀ {kvs:List (Key × V)} {ws:List (Value × Value)},VV (kvs.map fun kv=>(kV kv.1,kv.2)) ws->∃ rs,Carries (mixKind P w) ws rs/\KV kvs rs
 | [],_,r=>by rw [List.map_nil] at r;cases r;exact ⟨[],True.intro,.nil⟩
 | p :: kvs,_,r=>by
  rw [List.map_cons] at r
  cases r with
  | @cons a b as bs h t=>
   obtain ⟨rs,c,q⟩:=carries_of (P:=P) (w:=w) t
   obtain ⟨b1,b2⟩:=b
   exact ⟨(p.1,b2) :: rs,⟨kV_is h.1,rfl,c⟩,.cons ⟨rfl,h.2⟩ q⟩
def tDisp (trs:List (TE × TE)):TE:=fun σ H Q=>∀ p,H p=none->tPairs trs σ (upd H p (.dK [])) fun ps H2=>H2 p=some (.dK [])/\∃ kvs:List (Key × V),ps=kvs.map (fun kv=>(kV kv.1,kv.2))/\kvs.length<=15/\Q (.ref p) (upd H2 p (.dK (mergeK [] kvs)))
theorem pe_disp {X:Cx} {pos:Pos} {keys:List (Option Expr)} {values:List Expr} {trs:List (TE × TE)} (h:PPs X pos keys values trs) (hall:keys.all (·.isSome)=true) (hl:keys.length=values.length) (h0:keys ≠ [])
  (h15:keys.length<=15):PE X (.Dict keys values pos) (tDisp trs):=by
 intro pins s σ H Q I q
 have hn:=I.hok.fresh (Nat.le_refl s.heap.objs.size)
 have I1:=I.laid (a:=s.heap.objs.size) (o:=.dK []) (h':=s.heap.push { cls:=.type "dict",data:=.dict #[] }) (t':=s.toks) (fun _ _ q=>Heap.get?_push_of_some _ q) (Nat.le_refl _) (dk_empty s.heap I.big)
 refine wpAny_Dict_walk (knd:=mixKind X.prog X.w) hall hl h0 h15 (thn (h pins _ σ _ _ I1 (q _ hn)) fun ws s2 ⟨ps,H2,I2,rel,e,kvs,ep,lk,q2⟩=>?_)
 subst ep
 obtain ⟨rs,c,rk⟩:=carries_of (P:=X.prog) (w:=X.w) rel
 obtain ⟨z,hd,vs0,r0,dd⟩:=dk_of I2.hok e
 cases r0
 refine ⟨rs,c,dd,fun h' dd' hs=>⟨.ref s.heap.objs.size,_,?_,rfl,q2⟩⟩
 have hz:(mergeK [] kvs).length<=sizeLine:=by
  have h1:=length_mergeK kvs []
  rw [List.length_nil] at h1
  rw [sizeLine_eq];omega
 have he:∃ q,h'.get? s.heap.objs.size=some q:=let ⟨q,_,_,hq,_⟩:=dd';⟨q,hq⟩
 exact d_write I2 (by rw [e];exact True.intro) hs he (dk_new hz hd (rk.merge .nil) dd')
theorem dk_item {X:Cx} {pins:List (Addr × Obj)} {σ:St} {H:Hp} {s:Shared} {a:Addr} {kvs:List (Key × V)} {k:Key} {v:V} {u:Value} {A:Around} {E:Value->Shared->Prop} {Q:Value->Shared->Prop} (I:Inv X pins σ H s) (e:H a=some (.dK kvs)) (l:valV kvs k=some v) (ry:RelV (kV k) u) (h:∀ w2 s2,Inv X pins σ H s2->RelV v w2->Q w2 s2):wpAny (model X.prog X.w) A (getItem (.ref a) u) Q E s:=by
 obtain ⟨z,hd,vs,rel,dd⟩:=dk_of I.hok e
 obtain ⟨w2,hw,rw2⟩:=RelO.some_of (v:=v) (o:=valueAt vs k) (by rw [<-l];exact rel.val k)
 exact wpAny_getItem_of (kV_is ry) dd.mapOf hw (h w2 _ (I.tok _) rw2)
def tDAt (td ty:TE):TE:=fun σ H Q=>td σ H fun x H1=>ty σ H1 fun y H2=>∃ (a:Addr) (kvs:List (Key × V)) (k:Key) (v:V),x=.ref a/\H2 a=some (.dK kvs)/\y=kV k/\valV kvs k=some v/\Q v H2
theorem pe_dat {X:Cx} {o i:Expr} {pos:Pos} {td ty:TE} (ho:PE X o td) (hi:PE X i ty) (hs:NoSl i):PE X (.Subscript o i pos) (tDAt td ty):=by
 intro pins s σ H Q I h
 refine subD_of PySem.F.slot_dict_getitem.lookup hs (thn (ho pins s σ H _ I h) fun u s1 ⟨x,H1,I1,rx,q1⟩=>thn (hi pins s1 σ H1 _ I1 q1) fun iv s2 ⟨y,H2,I2,ry,a,kvs,k,v,ex,e,ey,l,q2⟩=>?_)
 subst ex ey
 obtain rfl:u=Value.ref a:=rx
 refine ⟨?_,dk_item I2 e l ry fun w2 s3 I3 r3=>⟨v,H2,I3,r3,q2⟩⟩
 obtain ⟨_,_,vs,_,dd⟩:=dk_of I2.hok e
 exact dd.typeIs
end L2
namespace L2
open PySem PySem.Spec PyProof.Rows
section
variable {X:Cx} {pins:List (Addr × Obj)} {σ:St} {H:Hp} {s:Shared} {a:Addr} {kvs:List (Option Str × V)}
end
section
variable {X:Cx} {o e:Expr} {es:List Expr} {to:TE} {t:TA} {name:Str} {apos cpos:Pos} {id:String} {r:V->List V->Hp->VK->Prop}
end
section
variable {X:Cx}
end
end L2
namespace L2
open PySem PySem.Spec PyProof.Rows
theorem itemsT {P:Program} {w:World}:∀ {ks:List Key} {us:List Value},Vals (ks.map kV) us->ItemsAre (mixKind P w) ks us
 | [],_,r=>by rw [List.map_nil] at r;cases r;exact .nil
 | k :: ks,_,r=>by
  rw [List.map_cons] at r
  cases r with
  | cons h t=>exact .cons (kV_is h) (itemsT t)
abbrev Pk:=List Key × Addr × V
def R3 (y:Pk) (x:List Key × Addr × Value):Prop:=y.1=x.1/\y.2.1=x.2.1/\RelV y.2.2 x.2.2
def DP (P:Program) (w:World) (a:Addr) (ys:List Pk):HO:=.ext fun h=>ys.length<=sizeLine/\(a == sysModules)=false/\∃ xs:List (List Key × Addr × Value),Paired R3 ys xs ∧
 ∃ o es ep,h.get? a=some o/\o.ExactDict/\o.data=.dict es ep/\es.toList=xs.map (entryOfKey (tupleKind (mixKind P w)))/\(xs.map (·.1)).Nodup
def KeysAt (H:Hp) (ys:List Pk):Prop:=∀ y ∈ ys,H y.2.1=some (.tup (y.1.map kV))
def valP (ys:List Pk) (k:List Key):Option V:=(ys.find? fun y=>decide (y.1=k)).map (·.2.2)
def putP (ys:List Pk) (k:List Key) (b:Addr) (v:V):List Pk:=if (ys.any fun y=>decide (y.1=k))=true then ys.map (fun y=>if y.1=k then (y.1,y.2.1,v) else y) else ys++[(k,b,v)]
theorem R3.any {ys:List Pk} {xs:List (List Key × Addr × Value)} (r:Paired R3 ys xs) (k:List Key):(ys.any fun y=>decide (y.1=k))=(atKey xs k).isSome:=by
 induction r with
 | nil=>rfl
 | @cons p q ps qs h t ih=>
  by_cases e:p.1=k
  ·have e':q.1=k:=h.1.symm.trans e
   have b:atKey (q :: qs) k=some q.2:=by simp [atKey,List.find?_cons,e']
   rw [List.any_cons,decide_eq_true e,b]
   rfl
  ·have e':¬ q.1=k:=fun z=>e (h.1.trans z)
   have b:atKey (q :: qs) k=atKey qs k:=by simp [atKey,List.find?_cons,e']
   rw [List.any_cons,decide_eq_false e,b,<-ih]
   rfl
theorem R3.val {ys:List Pk} {xs:List (List Key × Addr × Value)} (r:Paired R3 ys xs) (k:List Key):RelO (valP ys k) ((atKey xs k).map (·.2)):=by
 induction r with
 | nil=>exact True.intro
 | @cons p q ps qs h t ih=>
  by_cases e:p.1=k
  ·have e':q.1=k:=h.1.symm.trans e
   have b:atKey (q :: qs) k=some q.2:=by simp [atKey,List.find?_cons,e']
   have c:valP (p :: ps) k=some p.2.2:=by simp [valP,List.find?_cons,e]
   rw [b,c]
   exact h.2.2
  ·have e':¬ q.1=k:=fun z=>e (h.1.trans z)
   have b:atKey (q :: qs) k=atKey qs k:=by simp [atKey,List.find?_cons,e']
   have c:valP (p :: ps) k=valP ps k:=by simp [valP,List.find?_cons,e]
   rw [b,c]
   exact ih
theorem R3.repl {ys:List Pk} {xs:List (List Key × Addr × Value)} (r:Paired R3 ys xs) (k:List Key) {v:V} {u:Value} (ru:RelV v u):Paired R3 (ys.map fun y=>if y.1=k then (y.1,y.2.1,v) else y) (xs.map (putAt k u)):=by
 induction r with
 | nil=>exact .nil
 | @cons p q ps qs h t ih=>
  rw [List.map_cons,List.map_cons]
  refine .cons ?_ ih
  obtain ⟨h1,h2,h3⟩:=h
  unfold putAt
  by_cases e:p.1=k
  ·rw [if_pos e,if_pos (h1.symm.trans e)];exact ⟨h1,h2,ru⟩
  ·rw [if_neg e,if_neg (fun z=>e (h1.trans z))];exact ⟨h1,h2,h3⟩
theorem R3.put {ys:List Pk} {xs:List (List Key × Addr × Value)} (r:Paired R3 ys xs) (k:List Key) (b:Addr) {v:V} {u:Value} (ru:RelV v u):Paired R3 (putP ys k b v) (storedH xs k b u):=by
 unfold putP storedH
 rw [R3.any r k]
 by_cases q:(atKey xs k).isSome=true
 ·rw [if_pos q,if_pos q];exact R3.repl r k ru
 ·rw [if_neg q,if_neg q];exact Paired.snoc r ⟨rfl,rfl,ru⟩
theorem putP_len (ys:List Pk) (k:List Key) (b:Addr) (v:V):(putP ys k b v).length<=ys.length+1:=by
 unfold putP
 split
 ·rw [List.length_map];omega
 ·rw [List.length_append];exact Nat.le_refl _
theorem KeysAt.put {H H':Hp} {ys:List Pk} {k:List Key} {b:Addr} {v:V} (h:KeysAt H ys) (hb:H b=some (.tup (k.map kV))) (hk:∀ c zs,H c=some (.tup zs)->H' c=some (.tup zs)):KeysAt H' (putP ys k b v):=by
 intro y hy
 unfold putP at hy
 split at hy
 ·obtain ⟨z,hz,rfl⟩:=List.mem_map.mp hy
  split
  ·exact hk _ _ (h z hz)
  ·exact hk _ _ (h z hz)
 ·rcases List.mem_append.mp hy with hy | hy
  ·exact hk _ _ (h y hy)
  ·rw [List.mem_singleton.mp hy]
   exact hk _ _ hb
section
variable {X:Cx} {pins:List (Addr × Obj)} {σ:St} {H:Hp} {s:Shared} {a b:Addr} {ys:List Pk} {ks:List Key}
theorem keyT (I:Inv X pins σ H s) (e:H b=some (.tup (ks.map kV))):(tupleKind (mixKind X.prog X.w)).is s.heap ks b:=by
 obtain ⟨_,its,r,o,h1,h2,n,h3⟩:=(show ObjOk X.prog X.w H s.heap b (.tup (ks.map kV)) from I.hok b _ e)
 exact ⟨o,its.toArray,n,h1,h2,h3,by simpa using itemsT r⟩
theorem dp_ok {P:Program} {w:World} {h:Heap} {xs:List (List Key × Addr × Value)} (hl:ys.length<=sizeLine) (hd:(a == sysModules)=false) (rel:Paired R3 ys xs) (dd:h.DictOfH (tupleKind (mixKind P w)) a xs):ObjOk P w H h a (DP P w a ys):=by
 obtain ⟨o,es,ep,h1,h2,h3,h4,_,h5⟩:=dd
 refine ⟨⟨hl,hd,xs,rel,o,es,ep,h1,h2,h3,h4,h5⟩,⟨o,h1⟩,fun g1 g2 x k=>?_⟩
 obtain ⟨z1,z2,ws,z3,o',es',ep',ho',r'⟩:=x
 exact ⟨z1,z2,ws,z3,o',es',ep',k _ ho',r'⟩
theorem dp_of (I:Inv X pins σ H s) (e:H a=some (DP X.prog X.w a ys)) (kk:KeysAt H ys):ys.length<=sizeLine/\(a == sysModules)=false/\∃ xs,Paired R3 ys xs/\s.heap.DictOfH (tupleKind (mixKind X.prog X.w)) a xs:=by
 obtain ⟨z1,z2,xs,r,o,es,ep,h1,h2,h3,h4,h5⟩:=(I.hok a _ e).1
 refine ⟨z1,z2,xs,r,o,es,ep,h1,h2,h3,h4,fun x hx=>?_,h5⟩
 have all:∀ {l:List Pk} {m:List (List Key × Addr × Value)},Paired R3 l m->KeysAt H l->∀ x ∈ m,(tupleKind (mixKind X.prog X.w)).is s.heap x.1 x.2.1:=by
  intro l m q
  induction q with
  | nil=>intro _ x hx;exact nomatch hx
  | @cons p q ps qs hq t ih=>
   intro kl x hx
   rcases List.mem_cons.mp hx with e | hx
   ·subst e
    rw [<-hq.1,<-hq.2.1]
    exact keyT I (kl p List.mem_cons_self)
   ·exact ih (fun y hy=>kl y (List.mem_cons_of_mem _ hy)) x hx
 exact all r kk x hx
end
section
variable {X:Cx}
def rSetP (P:Program) (w:World):V->V->V->Hp->(Hp->Prop)->Prop:=fun o i v H Q=>∃ a ys k b,o=.ref a/\i=.ref b/\H a=some (DP P w a ys)/\KeysAt H ys/\H b=some (.tup (k.map kV))/\ys.length < sizeLine/\Q (upd H a (DP P w a (putP ys k b v)))
theorem set_dictP (hu:X.A.units+64 < cLine):PSet X (rSetP X.prog X.w):=by
 intro pins s σ H o i v ov iv u Q I ro ri rv h
 obtain ⟨a,ys,k,b,rfl,rfl,e,kk,hb,l,q⟩:=h
 cases ro
 cases ri
 obtain ⟨z,hd,xs,rel,dd⟩:=dp_of I e kk
 have hz:xs.length<=sizeLine:=by rw [<-Paired.length rel];exact z
 have hl:(putP ys k b v).length<=sizeLine:=by have:=putP_len ys k b v;omega
 refine wpAny_setItem_heap (hsz:=hz) (tupleKind_room_in1 (by omega)) (keyT I hb) dd fun h' dd' hs=>⟨_,?_,q⟩
 obtain ⟨q,es,ep,hq,h2⟩:=id dd'
 exact d_write I (by rw [e];exact True.intro) hs ⟨q,hq⟩ (dp_ok hl hd (R3.put rel k b rv) dd')
def tDispP (P:Program) (w:World) (tk tv:TE):TE:=fun σ H Q=>∀ p,H p=none->tk σ (upd H p (DP P w p [])) fun x H1=>tv σ H1 fun y H2=>∃ b ks,x=.ref b/\H2 b=some (.tup (ks.map kV))/\H2 p=some (DP P w p [])/\Q (.ref p) (upd H2 p (DP P w p [(ks,b,y)]))
theorem pe_dispP {k v:Expr} {pos:Pos} {tk tv:TE} (hu:X.A.units+64 < cLine) (hk:PE X k tk) (hv:PE X v tv):PE X (.Dict [some k] [v] pos) (tDispP X.prog X.w tk tv):=by
 intro pins s σ H Q I q
 have hn:=I.hok.fresh (Nat.le_refl s.heap.objs.size)
 have I1:=I.laid (a:=s.heap.objs.size) (o:=DP X.prog X.w s.heap.objs.size []) (h':=s.heap.push { cls:=.type "dict",data:=.dict #[] }) (t':=s.toks) (fun _ _ q=>Heap.get?_push_of_some _ q) (Nat.le_refl _) (dp_ok (Nat.zero_le _) (beq_eq_false_iff_ne.mpr (Ne.symm (Nat.ne_of_lt I.big))) .nil (Heap.DictOfH.new s.heap))
 refine wpAny_Dict_any rfl rfl (by simp) (by show 1<=15;omega) (thn (pps_cons hk hv pps_nil pins _ σ _ (fun ps H2=>match ps with
  | [(x,y)]=>∃ b ks,x=.ref b/\H2 b=some (.tup (ks.map kV))/\H2 s.heap.objs.size=some (DP X.prog X.w s.heap.objs.size [])/\Q (.ref s.heap.objs.size) (upd H2 s.heap.objs.size (DP X.prog X.w s.heap.objs.size [(ks,b,y)]))
  | _=>False) I1 (q _ hn)) fun ws s2 ⟨ps,H2,I2,rel,q2⟩=>?_)
 match ps,rel,q2 with
 | [(x,y)],rel,q2=>
  obtain ⟨b,ks,ex,hb,hp,q2⟩:=q2
  subst ex
  cases rel with
  | @cons p w1 _ _ h t=>
   cases t
   obtain ⟨u1,u2⟩:=w1
   obtain ⟨r1,r2⟩:=h
   cases (show u1=Value.ref b from r1)
   obtain ⟨z,hd,xs,r3,dd⟩:=dp_of I2 hp (fun _ z=>nomatch z)
   cases r3
   unfold storeAll
   rw [List.forIn_cons]
   refine wpAny_bind (wpAny_bind (wpAny_dictSet_heap (knd:=tupleKind (mixKind X.prog X.w)) (hsz:=Nat.zero_le _) (show X.A.units < cLine by omega) (keyT I2 hb) dd fun h' dd' hs=>wpAny_pure ?_))
   simp only [List.forIn_nil]
   refine wpAny_pure ⟨.ref s.heap.objs.size,_,?_,rfl,q2⟩
   obtain ⟨q,es,ep,hq,h2⟩:=id dd'
   exact d_write I2 (by rw [hp];exact True.intro) hs ⟨q,hq⟩ (dp_ok (by show 1<=sizeLine;rw [sizeLine_eq];omega) hd (.cons ⟨rfl,rfl,r2⟩ .nil) dd')
end
end L2
namespace L3
open PySem PySem.Spec PyProof.Rows L2
section
variable {prog:Program} {w:World} {A:Around} {E:Value->Shared->Prop} {s:Shared} {z c t:Addr} {xs:Array Value} {S:Nat->Heap->Prop} {k:Nat}
end
section
variable {X:Cx} {es:List Expr} {x1:Nat} {tpos:Pos}
end
end L3
namespace L3
open PySem PySem.Spec PyProof.Rows L2
def Itv (K:PySem.W.Frag) (t:Addr) (n:Nat):It:=⟨fun i H=>∃ xs a,SqL K H t xs/\xs.length=n/\i < n/\xs[n - 1 - i]?=some a,
 fun i H x H'=>H'=H/\∀ xs,SqL K H t xs->xs[n - 1 - i]?=some x,
 fun i H=>∃ xs,SqL K H t xs/\xs.length=n/\i=n⟩
theorem turn_rev {P:Program} {w:World} {K:PySem.W.Frag} {tg:Expr} (a it:Addr) (n:Nat):Turn P w K tg (Itv K a n) [it] it (fun i h=>h.IsRevIter it a ((n:Int) - 1 - (i:Int))) where
 mem:=by simp
 obj:=fun i h st b hb=>by
  have e:b=it:=by simpa using hb
  subst e
  obtain ⟨o,e,c,d⟩:=st
  exact ⟨o,e,fun v z=>by rw [d] at z;cases z⟩
 keep:=fun i h h' st k=>st.at fun o e=>k it (by simp) o e
 item:=by
  intro X hP hw hK hc i pins s σ H E I hf st hg
  subst hP hw hK
  obtain ⟨xs,x,hq,hn,hi,hx⟩:=hg
  obtain ⟨its,rv,p,hz⟩:=I.list hq
  obtain ⟨u,hu,ru⟩:=rv.get hx
  obtain ⟨f0,f1,f2,f3,f4,f5⟩:=hf it (by simp)
  have e1:(n:Int) - 1 - (i:Int)=((n - 1 - i:Nat):Int):=by omega
  rw [e1] at st
  refine wpAny_pyNext_rev_item st p.isList (x:=u) (by simpa using hu) fun h' st' sb=>?_
  have e2:((n - 1 - i:Nat):Int) - 1=(n:Int) - 1 - ((i+1:Nat):Int):=by omega
  rw [e2] at st'
  have I1:Inv X pins σ H { s with heap:=h' }:=I.turned (t':=s.toks) (fun b o hb e=>(sb.2 b hb).trans e) f0 f1 f3 f4 f5
  obtain ⟨o,e,c,d⟩:=id st'
  exact ⟨u,rfl,go_of (s:={ s with heap:=h' }) e c d (by decide) ⟨x,H,I1,ru,⟨rfl,fun ys hy=>by rw [I.list_inj hy hq];exact hx⟩,st',fun b hb=>(hf b hb).1⟩⟩
 done:=by
  intro X hP hw hK hc i pins s σ H E I hf st hg
  subst hP hw hK
  obtain ⟨xs,hq,hn,hi⟩:=hg
  obtain ⟨f0,f1,f2,f3,f4,f5⟩:=hf it (by simp)
  have e1:(n:Int) - 1 - (i:Int)=-1:=by omega
  rw [e1] at st
  exact wpAny_pyNext_rev_end (I.ok.hd hc) st fun h' eb=>⟨rfl,I.turned (t':=s.toks) (fun b o hb e=>eb b o hb e) f0 f1 f3 f4 f5⟩
 self:=fun _ _ _ _ _ st h=>wpAny_pyIter_revIter st h
section
variable {X:Cx} {tg:Expr}
def iRev (K:PySem.W.Frag) (ta:TA):TI:=fun σ H R=>ta σ H fun vs H1=>∃ (t:Addr) (xs:List V),vs=[.ref t]/\SqL K H1 t xs/\R (Itv K t xs.length) H1
theorem pi_rev {a:Expr} {ta:TA} {p pos:Pos} (hg:Gl X "reversed") (hm:X.mg "reversed" = none) (ha:PA X [a] ta) (hs:starEach [a] X.env=[(false,eval a X.env)]:=by rfl) :
  PI X tg (.Call (.Name "reversed" p) [a] [] pos) (iRev X.K ta):=by
 intro pins s σ H R I h
 refine Call_ (ld_blt I hg hm PyProof.Rows.boot_reversed (PyProof.Rows.callWith_type1 (thn (ha pos pins s σ H _ I h) fun us s1 ⟨vs,H1,I1,r1,q1⟩=>?_) (by rw [hs];rfl) (by rfl)))
 obtain ⟨t,xs,e,hx,q⟩:=q1
 subst e
 obtain ⟨u1,rfl,r1'⟩:=r1.one
 cases r1'
 obtain ⟨us,ru,pu,zu⟩:=I1.list hx
 have hl:=ru.length
 refine call_reversed_list pu.isList ?_
 have st:(s1.heap.push (revObj t ((us.toArray.size:Int) - 1))).IsRevIter s1.heap.objs.size t ((xs.length:Int) - 1 - ((0:Nat):Int)):=by
  refine ⟨_,Heap.get?_push_size _ rfl,rfl,?_⟩
  show Data.fields #[.ref t,rawInt ((us.toArray.size:Int) - 1)]=_
  have e:((us.toArray.size:Nat):Int) - 1=(xs.length:Int) - 1 - ((0:Nat):Int):=by rw [List.size_toArray,hl];omega
  rw [e]
 refine wpAny_pyIter_revIter (s:={ s1 with heap:=s1.heap.push (revObj t ((us.toArray.size:Int) - 1)) }) st ?_
 refine ⟨_,_,_,Itv X.K t xs.length,H1,rfl,I1.kept (t':=s1.toks) (fun b o e=>Heap.get?_push_of_some _ e),turn_rev t s1.heap.objs.size xs.length,st,fun b hb=>?_,q⟩
 have e:b=s1.heap.objs.size:=by simpa using hb
 subst e
 exact I1.fpOk (Nat.le_refl _) (I1.hok.fresh (Nat.le_refl _))
end
theorem for_rev {K:PySem.W.Frag} {a:Addr} {xs:List V} {g:TG} {tb:TS} {D:Ends} {σ:L2.St} {H:Hp} (Pv:Nat->L2.St->Hp->Prop) (h0:Pv 0 σ H) (hl:∀ i σ H,i<=xs.length->Pv i σ H->SqL K H a xs)
  (hs:∀ i x σ H,i < xs.length->xs[xs.length - 1 - i]?=some x->Pv i σ H->g x σ H fun σ2 H2=>tb { D with nx:=Pv (i+1),ct:=Pv (i+1),bk:=D.nx } σ2 H2) (hd:∀ σ H,Pv xs.length σ H->D.nx σ H) :
  ∃ W:Nat->Nat->L2.St->Hp->Prop,(∃ m,W 0 m σ H)/\∀ i m σ H,W i m σ H →
   ((Itv K a xs.length).stop i H/\D.nx σ H)\/((Itv K a xs.length).go i H/\∃ N:L2.St->Hp->Prop,(∀ σ' H',N σ' H'->∃ m',m' < m/\W (i+1) m' σ' H')/\∀ x H',(Itv K a xs.length).yld i H x H'->g x σ H' fun σ2 H2=>tb { D with nx:=N,ct:=N,bk:=D.nx } σ2 H2):=by
 refine ⟨fun i m σ H=>m=xs.length - i/\i<=xs.length/\Pv i σ H,⟨xs.length,by simp,Nat.zero_le _,h0⟩,?_⟩
 rintro i m σ H ⟨rfl,hi,p⟩
 have q:=hl i σ H hi p
 rcases Nat.lt_or_ge i xs.length with hlt | hge
 ·refine .inr ⟨⟨xs,xs[xs.length - 1 - i]'(by omega),q,rfl,hlt,List.getElem?_eq_getElem _⟩,Pv (i+1),fun σ' H' p'=>⟨xs.length - (i+1),by omega,rfl,hlt,p'⟩,?_⟩
  rintro x H' ⟨rfl,hx⟩
  exact hs i x σ H' hlt (hx xs q) p
 ·have e:i=xs.length:=by omega
  subst e
  exact .inl ⟨⟨xs,q,rfl,rfl⟩,hd σ H p⟩
end L3
namespace L2
open PySem PySem.Spec PyProof.Rows
end L2
namespace L2
open PySem PySem.Spec PyProof.Rows
def tDNewP (P:Program) (w:World):TE:=fun _ H Q=>∀ p,H p=none->Q (.ref p) (upd H p (DP P w p []))
theorem pe_dnewP {X:Cx} {pos:Pos}:PE X (.Dict [] [] pos) (tDNewP X.prog X.w):=fun pins s σ H Q I h=>
 wpAny_Dict_empty ⟨.ref s.heap.objs.size,_,I.laid (a:=s.heap.objs.size) (o:=DP X.prog X.w s.heap.objs.size []) (t':=s.toks) (fun _ _ q=>Heap.get?_push_of_some _ q) (Nat.le_refl _) (dp_ok (Nat.zero_le _) (beq_eq_false_iff_ne.mpr (Ne.symm (Nat.ne_of_lt I.big))) .nil (Heap.DictOfH.new s.heap)),rfl,h _ (I.hok.fresh (Nat.le_refl _))⟩
def tDAtP (P:Program) (w:World) (td ty:TE):TE:=fun σ H Q=>td σ H fun x H1=>ty σ H1 fun y H2=>∃ (a:Addr) (ys:List Pk) (k:List Key) (b:Addr) (v:V),x=.ref a/\y=.ref b/\H2 a=some (DP P w a ys)/\KeysAt H2 ys/\H2 b=some (.tup (k.map kV))/\valP ys k=some v/\Q v H2
theorem pe_datP {X:Cx} {P:Program} {w:World} {o i:Expr} {pos:Pos} {td ty:TE} (hP:X.prog=P) (hw:X.w=w) (hu:X.A.units+64 < cLine) (ho:PE X o td) (hi:PE X i ty) (hs:NoSl i):PE X (.Subscript o i pos) (tDAtP P w td ty):=by
 subst hP hw
 intro pins s σ H Q I h
 refine subD_of PySem.F.slot_dict_getitem.lookup hs (thn (ho pins s σ H _ I h) fun u s1 ⟨x,H1,I1,rx,q1⟩=>thn (hi pins s1 σ H1 _ I1 q1) fun iv s2 ⟨y,H2,I2,ry,a,ys,k,b,v,ex,ey,e,kk,hb,l,q2⟩=>?_)
 subst ex ey
 obtain rfl:u=Value.ref a:=rx
 obtain rfl:iv=Value.ref b:=ry
 obtain ⟨z,hd,xs,rel,dd⟩:=dp_of I2 e kk
 refine ⟨dd.typeIs,?_⟩
 obtain ⟨w',hw,rw'⟩:=RelO.some_of (v:=v) (o:=(atKey xs k).map (·.2)) (by rw [<-l];exact R3.val rel k)
 obtain ⟨p,hp,hp2⟩:=Option.map_eq_some_iff.mp hw
 refine wpAny_getItem_heap (tupleKind_room_in1 (by omega)) (keyT I2 hb) dd hp ?_
 rw [hp2]
 exact ⟨v,H2,I2.tok _,rw',q2⟩
theorem valP_put (ys:List Pk) (k j:List Key) (b:Addr) (v:V):valP (putP ys k b v) j=if j=k then some v else valP ys j:=by
 unfold putP
 split
 ·rename_i h
  induction ys with
  | nil=>cases h
  | cons y r ih=>
   by_cases e:y.1=k
   ·by_cases ej:j=k
    ·rw [if_pos ej]
     simp [valP,List.find?_cons,e,ej]
    ·rw [if_neg ej]
     have n1:¬ k=j:=fun z=>ej z.symm
     have c1:valP (y :: r) j=valP r j:=by simp [valP,List.find?_cons,e,n1]
     rw [c1]
     by_cases h2:(r.any fun y=>decide (y.1=k))=true
     ·have:=ih h2
      rw [if_neg ej] at this
      rw [<-this]
      simp [valP,List.find?_cons,e,n1]
     ·have e2:(r.map fun y=>if y.1=k then (y.1,y.2.1,v) else y)=r:=by
       rw [List.map_congr_left (g:=id),List.map_id]
       intro z hz
       rw [if_neg]
       ·rfl
       ·intro ez
        exact h2 (List.any_eq_true.mpr ⟨z,hz,decide_eq_true ez⟩)
      rw [List.map_cons,e2]
      simp [valP,List.find?_cons,e,n1]
   ·have h2:(r.any fun y=>decide (y.1=k))=true:=by
     rw [List.any_cons,decide_eq_false e,Bool.false_or] at h
     exact h
    have:=ih h2
    rw [List.map_cons,if_neg e]
    by_cases ey:y.1=j
    ·have nj:¬ j=k:=fun z=>e (ey.trans z)
     rw [if_neg nj]
     simp [valP,List.find?_cons,ey]
    ·have c1:∀ l:List Pk,valP (y :: l) j=valP l j:=fun l=>by simp [valP,List.find?_cons,ey]
     rw [c1,c1]
     exact this
 ·rename_i h
  have hn:∀ z ∈ ys,¬ z.1=k:=fun z hz ez=>h (List.any_eq_true.mpr ⟨z,hz,decide_eq_true ez⟩)
  unfold valP
  rw [List.find?_append]
  by_cases ej:j=k
  ·rw [if_pos ej]
   have:ys.find? (fun y=>decide (y.1=j))=none:=List.find?_eq_none.mpr fun z hz ez=>hn z hz ((of_decide_eq_true ez).trans ej)
   rw [this]
   simp [ej]
  ·rw [if_neg ej]
   have n1:¬ k=j:=fun z=>ej z.symm
   simp [n1]
end L2
namespace PySem
open AutoSeq1 (wpAny_loadPart')
open PySem.W (KdxG kdx_collect)
end PySem
namespace L2
open PySem PySem.Spec PyProof.Rows
section
variable {X:Cx} {pins:List (Addr × Obj)} {σ:St} {H:Hp} {s:Shared}
end
end L2
namespace L2
open PySem PySem.Spec PyProof.Rows
section
variable {prog:Program} {w:World} {A:Around} {E:Value->Shared->Prop} {s:Shared} {es:Array DictEntry} {ep:Nat}
end
end L2
namespace L2
open PySem PySem.Spec PyProof.Rows
section
variable {X:Cx} {pins:List (Addr × Obj)} {σ:St} {H:Hp} {s:Shared} {a b:Addr} {ys:List Pk} {ks:List Key}
theorem dp_type (I:Inv X pins σ H s) (e:H a=some (DP X.prog X.w a ys)):s.TypeIs (.ref a) "dict"/\∀ b,Value.ref a=.ref b->∃ ob,s.heap.get? b=some ob/\ob.dict=none:=by
 obtain ⟨z1,z2,xs,r,o,es,ep,h1,h2,h3,h4,h5⟩:=(I.hok a _ e).1
 refine ⟨⟨o,h1,h2.1⟩,fun b q=>?_⟩
 cases q
 exact ⟨o,h1,h2.2.1⟩
end
section
variable {X:Cx} {o e:Expr} {es:List Expr} {to:TE} {t:TA} {name:Str} {apos cpos:Pos} {id:String} {r:V->List V->Hp->VK->Prop}
def tBMP (P:Program) (w:World) (r:V->List V->Hp->VK->Prop) (to:TE) (t:TA):TE:=fun σ H Q=>to σ H fun x H1=>∃ a ys,x=.ref a/\H1 a=some (DP P w a ys)/\t σ H1 fun xs H2=>r x xs H2 Q
theorem pe_bmP (slot:Slot "dict" name id) (hty:typeOf (.builtin id)=pure (.type "method_descriptor")) (hm:MtM X id r) (ho:PE X o to) (ha:PA X (e :: es) t)
  (hbase:attributeBase o name X.env (eval o X.env)=eval o X.env:=by rfl)
  (hfew:((backTo cpos (starEach (e :: es) X.env)).all (fun x=>!x.1) && (backToKw cpos (keywordEach [] X.env)).all (fun x=>x.1.isSome)
   && decide ((e :: es).length+([]:List Keyword).length+(if ([]:List Keyword).isEmpty then 0 else 1) < 30))=true:=by rfl)
  (hline:(apos.endLine == cpos.line)=true:=by rfl) (hs:starEach (e :: es) X.env=(false,eval e X.env) :: starEach es X.env:=by rfl) (hplain:(backTo cpos (starEach es X.env)).any (·.1)=false:=by rfl) :
  PE X (.Call (.Attribute o name apos) (e :: es) [] cpos) (tBMP X.prog X.w r to t):=by
 intro pins s σ H Q I h
 refine wpAny_Call_method_late hbase hfew hline rfl (thn (ho pins s σ H _ I h) fun v s1 ⟨x,H1,I1,r1,a,ys,ex,hd,q1⟩=>?_)
 subst ex
 cases r1
 obtain ⟨h1,h2⟩:=dp_type I1 hd
 refine ⟨"dict",id,F.plainAttrs_dict,slot,hty,h1,h2,?_⟩
 have hA:=ha cpos pins s1 σ H1 _ I1 q1
 rw [hs] at hA ⊢
 refine Calls.callWith_builtin (by show (false || (backTo cpos (starEach es X.env)).any (·.1))=false;rw [hplain] <;> rfl) (Calls.evalArgs_plain ?_)
 exact thn hA fun us s2 ⟨vs,H2,I2,r2,q2⟩=>hm pins s2 σ H2 (.ref a) vs _ us Q I2 rfl r2 q2
def rDGetP (P:Program) (w:World):V->List V->Hp->VK->Prop:=fun x vs H Q=>∃ a ys k b y,x=.ref a/\vs=[.ref b,y]/\H a=some (DP P w a ys)/\KeysAt H ys/\H b=some (.tup (k.map kV))/\Q ((valP ys k).getD y) H
theorem mt_dgetP (hu:X.A.units+64 < cLine):MtM X "dict.get" (rDGetP X.prog X.w):=by
 intro pins s σ H x vs v us Q I rx rv h
 obtain ⟨a,ys,k,b,y,rfl,rfl,e,kk,hb,q⟩:=h
 cases rx
 obtain ⟨u1,u2,rfl,r1,r2⟩:=vals2 rv
 cases (show u1=Value.ref b from r1)
 obtain ⟨z,hd,xs,rel,dd⟩:=dp_of I e kk
 exact call_meetsIn PySem.F.slot_dict_get dd.typeIs PySem.F.entry_dict_get (PySem.F.args_dict_get_3 _ _ _) (meetsH_dict_get_default (tupleKind (mixKind X.prog X.w)) a b hd u2) ⟨tupleKind_room_in1 (by omega),k,xs,keyT I hb,dd,_,H,I.tok _,(R3.val rel k).getD r2,q⟩
end
end L2
namespace Vm
open PySem PySem.Spec PyProof.Rows L2 L3
theorem best_le (val:Nat->Int):∀ k j,j<=k->val (argBest (fun a b=>decide (val a < val b)) k)<=val j
 | 0,j,h=>by rw [show j=0 by omega];exact Int.le_refl _
 | k+1,j,h=>by
  have ih:=best_le val k
  show val (if decide (val (k+1) < val (argBest (fun a b=>decide (val a < val b)) k))=true then k+1 else argBest (fun a b=>decide (val a < val b)) k)<=val j
  by_cases hb:val (k+1) < val (argBest (fun a b=>decide (val a < val b)) k)
  ·rw [if_pos (decide_eq_true hb)]
   by_cases e:j=k+1
   ·rw [e];exact Int.le_refl _
   ·have:=ih j (by omega);omega
  ·rw [if_neg (by rw [decide_eq_false hb];exact Bool.false_ne_true)]
   by_cases e:j=k+1
   ·rw [e];omega
   ·exact ih j (by omega)
theorem best_in (bt:Nat->Nat->Bool):∀ k,argBest bt k<=k
 | 0=>Nat.le_refl _
 | k+1=>by
  have ih:=best_in bt k
  show (if bt (k+1) (argBest bt k)=true then k+1 else argBest bt k)<=k+1
  by_cases h:bt (k+1) (argBest bt k)=true
  ·rw [if_pos h];exact Nat.le_refl _
  ·rw [if_neg h];omega
theorem minD_turn {pr:Program} {wd:World} {A:Around} {R:Result->Shared->Prop} {I:Addr} {fp wr:List Addr} {n:Nat} {Pp:Nat->Value->Prop} {Sp':Nat->Heap->Prop} (d:Value) (T:Walks pr wd A.in1 I fp wr n Pp Sp') (bt:Nat->Nat->Bool) (hb:CmpOf pr wd A.in1 .Lt Pp bt) (B:Addr) (hB:B ∉ fp) :
  ∀ (k j:Nat) (s:Shared) (u:Value) (c:Nat),n - (j+1)=k->j+1<=n->Sp' (j+1) s.heap->Pp (argBest bt j) u->s.heap.get? B=some ⟨.type "list",none,.seq #[u,u] c,#[]⟩ →
   (∀ v h2 tk,Pp (argBest bt (n - 1)) v->(∀ b o,b ∉ wr->b ≠ B->s.heap.get? b=some o->h2.get? b=some o)->R (.ok (.ret v)) { s with heap:=h2,toks:=tk }) →
   codeAny (model pr wd) A (.builtin "min.loop" ⟨[.ref I,.none,.ref B],[(Str.ofString "default",d)]⟩) R s:=by
 have hw:B ∉ wr:=fun h=>hB (T.sub _ h)
 have nm:(toString "min"++toString ".loop" : String) = "min.loop" := by decide
 intro k
 induction k with
 | zero=>
  intro j s u c hk hj hst hu hS hR
  have e1:j+1=n:=by omega
  refine codeAny_builtin PySem.F.entry_min_loop ?_;rw [Around.under_plainId PySem.F.plain_min_loop _]
  show wpAny _ A.in1 (seqItems? (.ref B) >>= _) _ _ s;refine wpAny_bind (wpAny_seqItems hS rfl ?_)
  show wpAny _ A.in1 (tryCatch (pyNext (.ref I)) _ >>= _) _ _ s;refine wpAny_bind (wpAny_tryCatch (T.done s _ _ (e1 ▸ hst) fun h2 tk hk2=>?_))
  have hS2:=hk2 B _ hw hS
  show wpAny _ A.in1 (updateSeq B (fun _=>#[]) >>= _) _ _ _;refine wpAny_bind (wpAny_updateSeq hS2 rfl (wpAny_bind (wpAny_letGo (wpAny_pure ?_))))
  exact hR u _ tk (by rw [<-e1];exact hu) fun b o bw bS e=>(Heap.get?_update_other _ _ (Ne.symm bS)).trans (hk2 b o bw e)
 | succ k ih=>
  intro j s u c hk hj hst hu hS hR
  have lt:j+1 < n:=by omega
  refine codeAny_builtin PySem.F.entry_min_loop ?_;rw [Around.under_plainId PySem.F.plain_min_loop _]
  show wpAny _ A.in1 (seqItems? (.ref B) >>= _) _ _ s;refine wpAny_bind (wpAny_seqItems hS rfl ?_)
  show wpAny _ A.in1 (tryCatch (pyNext (.ref I)) _ >>= _) _ _ s;refine wpAny_bind (wpAny_tryCatch (T.item (j+1) s _ _ lt hst fun v h2 tk hv hst2 hk2=>?_))
  have hS2:=hk2 B _ hw hS
  show wpAny _ A.in1 (tryCatch (holding [v,v] (richCompare .Lt v u >>= _)) _ >>= _) _ _ _;refine wpAny_bind (wpAny_tryCatch (wpAny_holding (wpAny_bind (hb (j+1) (argBest bt j) v u _ _ _ hv hu ?_))))
  refine wpAny_bind (wpAny_holding (wpAny_truthy_bool (wpAny_bind (wpAny_letGo (wpAny_pure ?_)))))
  cases hbt:bt (j+1) (argBest bt j) with
  | true=>
   simp only [if_true];refine wpAny_bind (wpAny_updateSeq hS2 rfl (wpAny_bind (wpAny_letGo ?_)));rw [nm]
   refine wpAny_pure ⟨plainId_quiet PySem.F.plain_min_loop _,ih (j+1) _ v _ (by omega) lt (T.frame _ _ _ hst2 fun b bf o e=>?_) (by simp only [argBest,hbt,if_true];exact hv) (Heap.get?_update_self _ hS2 rfl) fun v3 h3 tk3 hv3 hk3=>?_⟩
   ·exact (Heap.get?_update_other _ _ (fun h:B=b=>hB (by rw [h];exact bf))).trans e
   ·exact hR v3 h3 tk3 hv3 fun b o bw bS e=>hk3 b o bw bS ((Heap.get?_update_other _ _ (Ne.symm bS)).trans (hk2 b o bw e))
  | false=>
   simp only [Bool.false_eq_true,if_false];refine wpAny_bind (wpAny_letGo ?_);rw [nm]
   refine wpAny_pure ⟨plainId_quiet PySem.F.plain_min_loop _,ih (j+1) _ u c (by omega) lt hst2 (by simp only [argBest,hbt,Bool.false_eq_true,if_false];exact hu) hS2 fun v3 h3 tk3 hv3 hk3=>?_⟩
   exact hR v3 h3 tk3 hv3 fun b o bw bS e=>hk3 b o bw bS (hk2 b o bw e)
theorem minD_first {pr:Program} {wd:World} {A:Around} {R:Result->Shared->Prop} {I:Addr} {fp wr:List Addr} {n:Nat} {Pp:Nat->Value->Prop} {Sp':Nat->Heap->Prop} (d:Value) (T:Walks pr wd A.in1 I fp wr n Pp Sp') (bt:Nat->Nat->Bool) (hb:CmpOf pr wd A.in1 .Lt Pp bt) (B:Addr) (hB:B ∉ fp) {s:Shared} {c:Nat} (hst:Sp' 0 s.heap)
  (hS:s.heap.get? B=some ⟨.type "list",none,.seq #[] c,#[]⟩)
  (h0:n=0->∀ h2 tk,(∀ b o,b ∉ wr->b ≠ B->s.heap.get? b=some o->h2.get? b=some o)->R (.ok (.ret d)) { s with heap:=h2,toks:=tk })
  (hR:0 < n->∀ v h2 tk,Pp (argBest bt (n - 1)) v->(∀ b o,b ∉ wr->b ≠ B->s.heap.get? b=some o->h2.get? b=some o)->R (.ok (.ret v)) { s with heap:=h2,toks:=tk }) :
  codeAny (model pr wd) A (.builtin "min.loop" ⟨[.ref I,.none,.ref B],[(Str.ofString "default",d)]⟩) R s:=by
 have hw:B ∉ wr:=fun h=>hB (T.sub _ h)
 have nm:(toString "min"++toString ".loop" : String) = "min.loop" := by decide
 refine codeAny_builtin PySem.F.entry_min_loop ?_;rw [Around.under_plainId PySem.F.plain_min_loop _]
 show wpAny _ A.in1 (seqItems? (.ref B) >>= _) _ _ s;refine wpAny_bind (wpAny_seqItems hS rfl ?_)
 show wpAny _ A.in1 (tryCatch (pyNext (.ref I)) _ >>= _) _ _ s
 by_cases hn:n=0
 ·refine wpAny_bind (wpAny_tryCatch (T.done s _ _ (hn ▸ hst) fun h2 tk hk2=>?_))
  show wpAny _ A.in1 (rule _ >>= _) _ _ _
  refine wpAny_bind (wpAny_rule (wpAny_pure ?_))
  exact h0 hn h2 tk fun b o bw _ e=>hk2 b o bw e
 ·have hn:0 < n:=by omega
  refine wpAny_bind (wpAny_tryCatch (T.item 0 s _ _ hn hst fun v h2 tk hv hst2 hk2=>?_))
  have hS2:=hk2 B _ hw hS
  show wpAny _ A.in1 (updateSeq B (fun _=>#[v,v]) >>= _) _ _ _;refine wpAny_bind (wpAny_updateSeq hS2 rfl ?_);rw [nm]
  refine wpAny_pure ⟨plainId_quiet PySem.F.plain_min_loop _,minD_turn d T bt hb B hB _ 0 _ v _ rfl hn (T.frame _ _ _ hst2 fun b bf o e=>?_) hv (Heap.get?_update_self _ hS2 rfl) fun v3 h3 tk3 hv3 hk3=>?_⟩
  ·exact (Heap.get?_update_other _ _ (fun h:B=b=>hB (by rw [h];exact bf))).trans e
  ·exact hR hn v3 h3 tk3 hv3 fun b o bw bS e=>hk3 b o bw bS ((Heap.get?_update_other _ _ (Ne.symm bS)).trans (hk2 b o bw e))
theorem args_minD (a v:Value):argsOk "min" ⟨[a],[(Str.ofString "default",v)]⟩:=by unfold argsOk;kernel_rfl
theorem minD_call {pr:Program} {wd:World} {A:Around} {E:Value->Shared->Prop} {s:Shared} {x d:Value} {Q:Value->Shared->Prop}
  (h:wpAny (model pr wd) A.in1 (pyIter x) (fun it s2=>∃ I fp wr n Pp Sp' bt,it=.ref I/\Walks pr wd A.in1 I fp wr n Pp Sp'/\Sp' 0 s2.heap/\(∀ b ∈ fp,b < s2.heap.objs.size)/\CmpOf pr wd A.in1 .Lt Pp bt ∧
   (n=0->∀ h2 tk,(∀ b o,b ∉ wr->s2.heap.get? b=some o->h2.get? b=some o)->Q d { s2 with heap:=h2,toks:=tk }) ∧
   (0 < n->∀ v h2 tk,Pp (argBest bt (n - 1)) v->(∀ b o,b ∉ wr->s2.heap.get? b=some o->h2.get? b=some o)->Q v { s2 with heap:=h2,toks:=tk })) E s) :
  wpAny (model pr wd) A (call (.builtin "min") [x] [(Str.ofString "default",d)]) Q E s:=by
 have nm:(toString "min"++toString ".loop" : String) = "min.loop" := by decide
 refine kmb_tree PySem.F.kind_min PySem.F.plain_min PySem.F.entry_min (args_minD _ _) ?_
 show wpAny _ A.in1 (Builtin.Builtins.bindParams "min" ["key","default"] 0 ⟨[],[(Str.ofString "default",d)]⟩ >>= _) _ _ s
 refine wpAny_bind (wpAny_of_eq (show Builtin.Builtins.bindParams "min" ["key","default"] 0 ⟨[],[(Str.ofString "default",d)]⟩=pure [none,some d] from rfl) (wpAny_bind (wpAny_pure ?_)))
 refine wpAny_bind (wpAny_mono h (fun it s2 g=>?_) fun _ _ e=>e)
 obtain ⟨I,fp,wr,n,Pp,Sp',bt,rfl,T,hst,hfp,hb,g0,g1⟩:=g
 refine wpAny_bind (wpAny_newObj_type ?_);rw [nm]
 have nB:s2.heap.objs.size ∉ fp:=fun hm=>Nat.lt_irrefl _ (hfp _ hm)
 refine wpAny_pure ⟨plainId_quiet PySem.F.plain_min_loop _,minD_first d T bt hb s2.heap.objs.size nB (T.frame _ _ _ hst fun b _ o e=>Heap.get?_push_of_some _ e) (Heap.get?_push_size _ rfl) (fun hn h2 tk hk=>?_) fun hn v h2 tk hv hk=>?_⟩
 ·exact g0 hn h2 tk fun b o bw e=>hk b o bw (Nat.ne_of_lt (Heap.lt_size e)) (Heap.get?_push_of_some _ e)
 ·exact g1 hn v h2 tk hv fun b o bw e=>hk b o bw (Nat.ne_of_lt (Heap.lt_size e)) (Heap.get?_push_of_some _ e)
section
variable {X:Cx}
def rMinD (K:PySem.W.Frag):V->Hp->VK->Prop:=fun x H Q=>∃ (p:Addr) (ns:List Int),x=.ref p/\SqL K H p (ns.map V.int)/\(ns=[]->Q (.int 0) H)/\∀ m ∈ ns,(∀ n ∈ ns,m<=n)->Q (.int m) H
def tMinD (K:PySem.W.Frag) (te:TE):TE:=fun σ H Q=>te σ H fun x H1=>rMinD K x H1 Q
theorem op_catA:OpR X (binaryOp .Add) (fun x y H Q=>∃ (a b:Addr) (xs ys:List V),x=.ref a/\y=.ref b/\SqT X.K H a xs/\SqT X.K H b ys/\xs.length+ys.length<=sizeLine/\∀ (r:Addr) (H2:Hp),Same H H2->SqT X.K H2 r (xs++ys)->Q (.ref r) H2):=by
 intro pins s σ H x y v u Q I rx ry h
 obtain ⟨a,b,xs,ys,rfl,rfl,ha,hb,hz,q⟩:=h
 by_cases hx:xs=[]
 ·cases rx;cases ry
  obtain ⟨its,r1,p1,_⟩:=I.tuple ha
  obtain ⟨its2,r2,p2,_⟩:=I.tuple hb
  have hv:its=[]:=r1.nil_iff.mpr hx
  obtain ⟨⟨c1,dd1,data1,sl1⟩,o1,hc1,n1,hd1⟩:=id p1
  obtain ⟨⟨c2,dd2,data2,sl2⟩,o2,hc2,n2,hd2⟩:=id p2
  simp only at hc1 hd1 hc2 hd2
  subst hc1 hd1 hc2 hd2
  exact concat_meets ⟨_,o1,rfl⟩ ⟨_,o2,rfl⟩ noFill_tuple_add seq_tuple_add PySem.F.slot_tuple_add PySem.F.entry_tuple_add (PySem.F.args_tuple_add_2 _ _) (tuple_addW0 a b its.toArray its2.toArray n1 n2 dd1 dd2 sl1 sl2 (by simp [hv])) ⟨o1,o2,⟨.ref b,H,I,rfl,q b H (Same.refl H) (by rw [hx];exact hb)⟩⟩
 ·exact op_catT pins s σ H _ _ v u Q I rx ry ⟨a,b,xs,ys,rfl,rfl,ha,hb,hx,hz,fun e=>q a H (Same.refl H) (by rw [e,List.append_nil];exact ha),fun _ p hp=>q p _ (same_upd hp) (SqT.of upd_same)⟩
theorem pe_minD {e:Expr} {te:TE} {p pos cp kp:Pos} {cj:Nat} (hc:X.calm=true) (hg:Gl X "min") (hm:X.mg "min" = none) (he:PE X e te) (hs:starEach [e] X.env=[(false,eval e X.env)]:=by rfl) :
  PE X (.Call (.Name "min" p) [e] [⟨some "default",.Constant (.int 0) cj cp,kp⟩] pos) (tMinD X.K te):=by
 intro pins s σ H Q I h
 refine wpAny_Call_Name_kw (ld_blt I hg hm boot_min ?_ (by decide) (by decide))
 have hpa:PA X [e] (tCons te tNil):=pa_cons he pa_nil hs
 refine callWith_kw (thn (hpa pos pins s σ H (fun xs H1=>match xs with | [x]=>rMinD X.K x H1 Q | _=>False) I h) fun us s1 ⟨vs,H1,I1,r1,q1⟩=>?_) (by rw [hs];rfl) (by rw [hs];rfl) rfl rfl
 match vs,r1,q1 with
 | [x],r1,q1=>
  obtain ⟨u,rfl,ru⟩:=r1.one
  refine kws_cons (thn (pe_int pins s1 σ H1 (fun y H2=>y=V.int 0/\rMinD X.K x H2 Q) I1 ⟨rfl,q1⟩) fun d s2 ⟨y,H2,I2,ry,ey,p,ns,ex,hq,q0,qm⟩=>kws_nil ?_)
  subst ey ex
  obtain ⟨td,rfl⟩:=ry
  cases ru
  show wpAny _ _ (call (.builtin "min") [.ref p] [(Str.ofString "default",Value.int 0 td)]) _ _ _
  obtain ⟨its,rv,hp,hz⟩:=I2.list hq
  have hlt:p < s2.heap.objs.size:=by obtain ⟨_,e,_⟩:=hp.isList;exact Heap.lt_size e
  have el:its.toArray.size=ns.length:=by rw [List.size_toArray,<-rv.length,List.length_map]
  have hval:∀ (i:Nat) (v:Value),its.toArray[i]?=some v->∃ t,v=.int (ns.getD i 0) t:=fun i v hv=>by
   have hv':its[i]?=some v:=by simpa using hv
   have hi:i < ns.length:=by
    have:=(List.getElem?_eq_some_iff.mp hv').1
    rw [<-el,List.size_toArray];exact this
   obtain ⟨u,hu,ru⟩:=rv.get (i:=i) (x:=V.int ns[i]) (by rw [List.getElem?_map,List.getElem?_eq_getElem hi];rfl)
   rw [hv'] at hu;cases hu
   obtain ⟨t,rfl⟩:=ru
   exact ⟨t,by show Value.int ns[i] t=Value.int (ns.getD i 0) t;rw [List.getD_eq_getElem?_getD,List.getElem?_eq_getElem hi];rfl⟩
  refine minD_call (wpAny_pyIter_list hp.isList ?_)
  refine ⟨s2.heap.objs.size,[s2.heap.objs.size,p],[s2.heap.objs.size],its.toArray.size,_,_,fun a b=>decide (ns.getD a 0 < ns.getD b 0),rfl,Walks.list (A:=X.A.in1) (I2.ok.hd hc) _ _ (Nat.ne_of_lt hlt) its.toArray,⟨⟨_,Heap.get?_push_size _ rfl,rfl,rfl⟩,hp.isList.push _⟩,?_,CmpOf.ints_lt (fun i=>ns.getD i 0) hval,?_,?_⟩
  ·intro b hb
   simp only [List.mem_cons,List.not_mem_nil,or_false] at hb
   rw [Heap.size_push]
   rcases hb with rfl | rfl
   ·exact Nat.lt_succ_self _
   ·exact Nat.lt_succ_of_lt hlt
  ·intro hn h2 tk hk
   exact ⟨.int 0,H2,I2.kept fun b o e=>hk b o (fun z=>absurd (Heap.lt_size e) (by rw [List.mem_singleton.mp z];exact Nat.lt_irrefl _)) (Heap.get?_push_of_some _ e),⟨_,rfl⟩,q0 (List.length_eq_zero_iff.mp (by omega))⟩
  ·intro hn v h2 tk hv hk
   obtain ⟨t,rfl⟩:=hval _ _ hv
   have hb:=best_in (fun a b=>decide (ns.getD a 0 < ns.getD b 0)) (its.toArray.size - 1)
   have hle:=best_le (fun i=>ns.getD i 0) (its.toArray.size - 1)
   generalize argBest (fun a b=>decide (ns.getD a 0 < ns.getD b 0)) (its.toArray.size - 1)=k at hb hle hv
   have hkl:k < ns.length:=by omega
   refine ⟨.int (ns.getD k 0),H2,I2.kept fun b o e=>hk b o (fun z=>absurd (Heap.lt_size e) (by rw [List.mem_singleton.mp z];exact Nat.lt_irrefl _)) (Heap.get?_push_of_some _ e),⟨_,rfl⟩,qm _ ?_ fun m hm=>?_⟩
   ·rw [List.getD_eq_getElem?_getD,List.getElem?_eq_getElem hkl];exact List.getElem_mem hkl
   ·obtain ⟨j,hj,rfl⟩:=List.mem_iff_getElem.mp hm
    have:=hle j (by omega)
    rw [List.getD_eq_getElem?_getD (i:=j),List.getElem?_eq_getElem hj] at this
    exact this
end
end Vm
namespace L3
open PySem PySem.Spec PyProof.Rows L2
theorem relabel_back2 {env:Env} {x:Str}:∀ {names:List (Str × NameKind)},
  ((names.map fun (n,k)=>if (k == NameKind.free && env.scope.kind == .function && env.kindOf n == some .cell) then (n,NameKind.cell) else (n,k)).lookup x=some .cell ∨
   (names.map fun (n,k)=>if (k == NameKind.free && env.scope.kind == .function && env.kindOf n == some .cell) then (n,NameKind.cell) else (n,k)).lookup x=some .free)->names.lookup x=some .free\/names.lookup x=some .cell
 | [],h=>by rcases h with h | h <;> (rw [List.map_nil,List.lookup_nil] at h;cases h)
 | (n,k) :: r,h=>by
  have ih:=relabel_back2 (env:=env) (x:=x) (names:=r)
  rw [List.map_cons] at h
  rw [List.lookup_cons]
  cases hx:x == n with
  | true=>
   dsimp only
   by_cases hq:(k == NameKind.free && env.scope.kind == .function && env.kindOf n == some .cell)=true
   ·rw [Bool.and_eq_true,Bool.and_eq_true] at hq
    rw [beq_iff_eq.mp hq.1.1]
    exact .inl rfl
   ·dsimp only at h
    rw [if_neg hq] at h
    rw [List.lookup_cons,hx] at h
    dsimp only at h
    exact h.symm
  | false=>
   dsimp only
   refine ih ?_
   dsimp only at h
   by_cases hq:(k == NameKind.free && env.scope.kind == .function && env.kindOf n == some .cell)=true
   ·rw [if_pos hq,List.lookup_cons,hx] at h
    exact h
   ·rw [if_neg hq,List.lookup_cons,hx] at h
    exact h
def compC (X:Cx) (Nc:List Str) (scope:Scope) (x0:Str) (c0:Addr) (cl:List (Str × Addr)) (C:Addr) (s:Shared) (H:Hp) (fp:List Addr):Cx:=
 { X with N:=Nc,s₀:=s,H₀:=H,env:=compEnvC scope ((x0,c0) :: cl) C X.env,outer:=X.stack,stack:=X.stack,ex:=fp,fn:=fun x=>x == x0,pn:=[],xe:=fun _ _=>False }
structure CompOkC (X:Cx) (scope:Scope) (Nc:List Str) (mp:List (Option Nat)) (x0:Str):Prop where
 kind:scope.kind=.function
 cf:∀ n acc,cellsFrom n scope.names acc=(x0,n) :: acc
 pc:∀ h:Heap,pushCells h scope.names=h.push { cls:=.type "cell",data:=.cell none }
 one:∀ y ∈ scope.names,y.2=.cell->y.1=x0
 nof:scope.names.lookup x0 ≠ some .free
 loc:∀ y ∈ scope.names,y.2=.local->scope.names.lookup y.1=some .local
 fre:∀ y ∈ scope.names,y.2=.free->X.env.kindOf y.1=some .cell\/X.env.kindOf y.1=some .free
 map:MapOk X scope Nc mp
theorem lk_cons {x0 x:Str} {c0 c:Addr} {cl:List (Str × Addr)} (h:((x0,c0) :: cl).lookup x=some c):(x=x0/\c=c0)\/(x ≠ x0/\cl.lookup x=some c):=by
 rw [List.lookup_cons] at h
 by_cases e:x=x0
 ·rw [show (x == x0)=true from beq_iff_eq.mpr e] at h
  exact .inl ⟨e,(Option.some.inj h).symm⟩
 ·rw [show (x == x0)=false from beq_eq_false_iff_ne.mpr e] at h
  exact .inr ⟨e,h⟩
theorem lk_ne {x0 x:Str} {c0:Addr} {cl:List (Str × Addr)} (e:x ≠ x0):((x0,c0) :: cl).lookup x=cl.lookup x:=by
 rw [List.lookup_cons,show (x == x0)=false from beq_eq_false_iff_ne.mpr e]
section
variable {X:Cx} {pins:List (Addr × Obj)} {σ:L2.St} {H:Hp} {s:Shared} {scope:Scope} {Nc:List Str} {mp:List (Option Nat)} {cl:List (Str × Addr)} {C c0:Addr} {x0:Str} {fp:List Addr}
theorem old_cell (I:Inv X pins σ H s) (h1:∀ x c,cl.lookup x=some c->X.env.cells.lookup x=some c) {x:Str} {c:Addr} (e:cl.lookup x=some c):c < s.heap.objs.size:=by
 obtain ⟨v,o,ho,_⟩:=I.cell x c (h1 x c e)
 exact Heap.lt_size ho
theorem compC_ok (I:Inv X pins σ H s) (S:CompOkC X scope Nc mp x0) (h1:∀ x c,cl.lookup x=some c->X.env.cells.lookup x=some c) (h2:∀ y ∈ scope.names,y.2=.free->∃ c,cl.lookup y.1=some c)
  (hC:s.heap.objs.size<=C) (hc0:s.heap.objs.size<=c0) (hf:∀ b ∈ fp,FpOk X pins H b) (ho:∀ b ∈ fp,b < s.heap.objs.size):(compC X Nc scope x0 c0 cl C s H fp).Ok where
 mod:=I.ok.mod
 kind:=S.kind
 glob:=I.ok.glob
 blt:=I.ok.blt
 above:=hC
 inj:=fun x y c e e'=>by
  rcases lk_cons e with ⟨k1,k2⟩ | ⟨n,k⟩ <;> rcases lk_cons e' with ⟨k3,k4⟩ | ⟨n',k'⟩
  ·rw [k1,k3]
  ·exact absurd (old_cell I h1 k') (by rw [k2];exact Nat.not_lt.mpr hc0)
  ·exact absurd (old_cell I h1 k) (by rw [k4];exact Nat.not_lt.mpr hc0)
  ·exact I.ok.inj x y c (h1 x c k) (h1 y c k')
 has:=fun x hx=>by
  by_cases e:x=x0
  ·exact ⟨c0,by rw [e];show ((x0,c0) :: cl).lookup x0=_;rw [List.lookup_cons,show (x0 == x0)=true from beq_self_eq_true _]⟩
  ·have q:=relabel_back2 (env:=X.env) hx
   rcases q with q | q
   ·obtain ⟨c,hc⟩:=h2 (x,.free) (mem_lookup q) rfl
    exact ⟨c,(lk_ne e).trans hc⟩
   ·exact absurd (S.one (x,.cell) (mem_lookup q) rfl) e
 cab:=fun x c hx e=>by
  have e0:x=x0:=beq_iff_eq.mp hx
  rcases lk_cons e with ⟨_,rfl⟩ | ⟨n,_⟩
  ·exact hc0
  ·exact absurd e0 n
 hd:=I.ok.hd
 frames:=I.ok.frames
 stk:=.inl rfl
 exf:=fun b hb=>⟨fun z=>absurd (Nat.lt_of_lt_of_le (ho b hb) hC) (by rw [z];exact Nat.lt_irrefl _),fun x c e=>by
  rcases lk_cons e with ⟨_,rfl⟩ | ⟨_,e⟩
  ·exact fun z=>absurd (Nat.lt_of_lt_of_le (ho b hb) hc0) (by rw [<-z];exact Nat.lt_irrefl _)
  ·exact (hf b hb).2.2.2.2.1 x c (h1 x c e)⟩
 bs:=I.bs
 bsz:=Nat.le_trans I.ok.bsz I.sz
 noex:=fun b o e hb=>by
  rcases (hf b hb).2.2.2.1 with z | z
  ·exact I.ok.noex b o e z
  ·exact absurd (Nat.lt_of_lt_of_le (Heap.lt_size e) (Nat.le_trans I.ok.bsz z)) (Nat.lt_irrefl _)
 exfs:=fun b hb z=>by
  rcases List.mem_cons.mp (I.stkSub b z) with e | e
  ·exact (hf b hb).2.1 e
  ·exact (hf b hb).2.2.1 e
 funs:=I.stack
 frf:=I.stkFree
theorem compC_inv {h':Heap} {tk:Nat} {D:Addr} {oD:Obj} (I:Inv X pins σ H s) (S:CompOkC X scope Nc mp x0) (h1:∀ x c,cl.lookup x=some c->X.env.cells.lookup x=some c) (h2:∀ y ∈ scope.names,y.2=.free->∃ c,cl.lookup y.1=some c)
  (hC:s.heap.objs.size<=C) (hc0:s.heap.objs.size<=c0) (e0:h'.IsCell c0 none) (hf:∀ b ∈ fp,FpOk X pins H b) (ho:∀ b ∈ fp,b < s.heap.objs.size) (kp:∀ b o,s.heap.get? b=some o->h'.get? b=some o) {m:Str->Option Value} (hn:h'.Ns C m)
  (hD:s.heap.objs.size<=D) (hDC:D ≠ C) (eD:h'.get? D=some oD) (dD:∀ v,oD.data ≠ .cell v):Inv (compC X Nc scope x0 c0 cl C s H fp) [(D,oD)] (mapS mp σ) H { s with heap:=h',toks:=tk } where
 ok:=compC_ok I S h1 h2 hC hc0 hf ho
 os:=rfl
 bare:=I.bare
 base:=Un.kept kp
 loc:=by
  refine ⟨m,hn,fun j x v e1 e2 _=>?_⟩
  have hj:(mapS mp σ)[j]?=(mp[j]?).map fun o=>o.bind fun i=>(σ[i]?).bind id:=by unfold mapS;rw [List.getElem?_map]
  rw [hj] at e2
  cases e3:mp[j]? with
  | none=>rw [e3] at e2;cases e2
  | some o=>
   rw [e3] at e2
   cases o with
   | none=>cases e2
   | some i=>
    obtain ⟨k1,k2,k3⟩:=S.map.at e3 e1
    have e4:(σ[i]?).bind id=some v:=Option.some.inj e2
    have e5:σ[i]?=some (some v):=by
     cases q:σ[i]? with
     | none=>rw [q] at e4;cases e4
     | some z=>rw [q] at e4;exact congrArg some e4
    obtain ⟨m0,_,hl⟩:=I.loc
    obtain ⟨u,r,l⟩:=hl i x v k1 e5 (.inr k2)
    refine ⟨u,r,.inr ⟨?_,?_⟩⟩
    ·show (relabel scope X.env).names.lookup x=some .cell\/(relabel scope X.env).names.lookup x=some .free
     have go:∀ {names:List (Str × NameKind)},names.lookup x=some .free →
       ((names.map fun (n,k)=>if (k == NameKind.free && X.env.scope.kind == .function && X.env.kindOf n == some .cell) then (n,NameKind.cell) else (n,k)).lookup x=some .cell ∨
        (names.map fun (n,k)=>if (k == NameKind.free && X.env.scope.kind == .function && X.env.kindOf n == some .cell) then (n,NameKind.cell) else (n,k)).lookup x=some .free):=by
      intro names
      induction names with
      | nil=>intro q;rw [List.lookup_nil] at q;cases q
      | cons y r ih=>
       obtain ⟨n,k⟩:=y
       intro q
       rw [List.lookup_cons] at q
       rw [List.map_cons]
       dsimp only
       cases hx:x == n with
       | true=>
        rw [hx] at q
        cases q
        by_cases hq:(NameKind.free == NameKind.free && X.env.scope.kind == .function && X.env.kindOf n == some .cell)=true
        ·rw [if_pos hq,List.lookup_cons,hx];exact .inl rfl
        ·rw [if_neg hq,List.lookup_cons,hx];exact .inr rfl
       | false=>
        rw [hx] at q
        by_cases hq:(k == NameKind.free && X.env.scope.kind == .function && X.env.kindOf n == some .cell)=true
        ·rw [if_pos hq,List.lookup_cons,hx];exact ih q
        ·rw [if_neg hq,List.lookup_cons,hx];exact ih q
     exact go k3
    ·obtain ⟨c,hc⟩:=h2 (x,.free) (mem_lookup k3) rfl
     have nx:x ≠ x0:=fun z=>S.nof (by rw [<-z];exact k3)
     refine ⟨c,(lk_ne nx).trans hc,?_⟩
     rcases l with ⟨lk,_⟩ | ⟨_,c',hc',oc,hoc,hd⟩
     ·have lk':X.env.scope.names.lookup x=some .local:=lk
      rcases k2 with k2 | k2 <;> (rw [lk'] at k2;cases k2)
     ·rw [h1 x c hc] at hc';cases hc'
      exact ⟨oc,kp _ _ hoc,hd⟩
 cell:=fun x c e=>by
  rcases lk_cons e with ⟨_,rfl⟩ | ⟨_,e⟩
  ·exact ⟨_,e0⟩
  ·obtain ⟨v,o,ho',hd⟩:=I.cell x c (h1 x c e)
   exact ⟨v,o,kp _ _ ho',hd⟩
 free:=I.hok.fresh hC
 freeC:=fun x c e=>by
  rcases lk_cons e with ⟨_,rfl⟩ | ⟨_,e⟩
  ·exact I.hok.fresh hc0
  ·exact I.freeC x c (h1 x c e)
 pin:=fun p hp=>by
  have e:p=(D,oD):=by
   have hp':p ∈ ([]:List (Addr × Obj))++[(D,oD)]:=hp
   simpa using hp'
  subst e
  refine ⟨eD,I.hok.fresh hD,hDC,fun z=>?_,dD⟩
  rcases List.mem_cons.mp (I.stkSub D z) with e | e
  ·exact absurd (Nat.lt_of_lt_of_le I.lt hD) (by rw [e];exact Nat.lt_irrefl _)
  ·exact I.nofs hD e
 hok:=I.hok.kept kp
 len:=by unfold mapS;rw [List.length_map];exact S.map.len
theorem compC_out {σ':L2.St} {H':Hp} {s':Shared} {h':Heap} {D:Addr} {acc:List V} {its:List Value} {n:Nat} (I:Inv X pins σ H s) (hC:s.heap.objs.size<=C) (hD:s.heap.objs.size<=D) (hDC:D ≠ C) (hf:∀ b ∈ fp,FpOk X pins H b)
  (J:Inv (compC X Nc scope x0 c0 cl C s H fp) [(D,{ cls:=.type "list",data:=.seq its.toArray n })] σ' H' s') (hs:Heap.SameBut C s'.heap h') (hv:Vals acc its) (hz:acc.length<=sizeLine) :
  Inv X pins σ (upd H' D (.lst acc)) { s' with heap:=h' }/\H' D=none:=by
 obtain ⟨eD,nD,_,_,_⟩:=J.pin (D,{ cls:=.type "list",data:=.seq its.toArray n }) (List.mem_append_right _ List.mem_cons_self)
 have nD':H' D=none:=nD
 have u:Un (frs X.stack) fp H H' s.heap s'.heap:=J.base
 have neC:∀ b o,s.heap.get? b=some o->b ≠ C:=fun b o e=>Nat.ne_of_lt (Nat.lt_of_lt_of_le (Heap.lt_size e) hC)
 have neD:∀ b o,s.heap.get? b=some o->b ≠ D:=fun b o e=>Nat.ne_of_lt (Nat.lt_of_lt_of_le (Heap.lt_size e) hD)
 refine ⟨?_,nD'⟩
 refine I.call' (ch:=fp) (s':={ s' with heap:=h' }) J.os ⟨fun b o e nb hb hx=>?_,fun b o e nb hb hx=>?_,fun b o e nb hx=>?_,fun b o e hx=>?_,fun b xs e=>?_,fun b o xs e=>?_,fun b ps e=>?_⟩ (fun b o e=>?_) J.bare fun b hb=>⟨(hf b hb).2.2.2.1,(hf b hb).2.1,(hf b hb).2.2.2.2.1,(hf b hb).2.2.2.2.2⟩
 ·exact (hs.2 b (neC b o e)).trans (u.keep b o e nb hb hx)
 ·obtain ⟨sl,q⟩:=u.slot b o e nb hb hx
  exact ⟨sl,(hs.2 b (neC b o e)).trans q⟩
 ·rw [upd_ne (neD b o e)];exact u.free b o e nb hx
 ·obtain ⟨o',q⟩:=u.there b o e hx
  exact ⟨o',(hs.2 b (neC b o e)).trans q⟩
 ·have q:=u.tups b xs e
  rw [upd_ne (ne_of_none q nD')];exact q
 ·have q:=u.frzs b o xs e
  rw [upd_ne (ne_of_none q nD')];exact q
 ·obtain ⟨more,q⟩:=u.tbls b ps e
  exact ⟨more,by rw [upd_ne (ne_of_none q nD')];exact q⟩
 ·have freeC':H' C=none:=J.free
  by_cases hb:b=D
  ·subst hb
   rw [upd_same] at e;cases e
   exact ⟨hz,its,n,hv,(hs.2 _ hDC).trans eD⟩
  ·rw [upd_ne hb] at e
   refine (J.hok b o e).stay (fun c v hc q=>(hs.2 c ?_).trans q) (fun c q=>by rw [upd_ne (ne_of_none q nD')];exact q) fun c xs q=>by rw [upd_ne (ne_of_none q nD')];exact q
   rcases hc with z | z
   ·rw [z];exact ne_of_none e freeC'
   ·exact ne_of_none z freeC'
end
theorem newEnv_one {M:Model} {A:Around} {E:Value->Shared->Prop} {s:Shared} {scope:Scope} {globals:Addr} {cl:List (Str × Addr)} {qual:Str} {x0:Str} {outer:Env} {Q:Env->Shared->Prop} (cf:∀ n acc,cellsFrom n scope.names acc=(x0,n) :: acc) (pc:∀ h:Heap,pushCells h scope.names=h.push { cls:=.type "cell",data:=.cell none })
  (hQ:Q (newEnv scope s.heap.objs.size globals ((x0,s.heap.objs.size+1) :: cl) qual none .none (some outer) builtinsNs) { s with heap:=(s.heap.push { cls:=.type "dict",data:=.dict #[] }).push { cls:=.type "cell",data:=.cell none } }) :
  wpAny M A (newFunctionEnv scope globals cl [] qual none .none (some outer)) Q E s:=by
 simp only [newFunctionEnv,Option.isSome_some,if_true]
 refine wpAny_bind (wpAny_alloc ?_)
 refine wpAny_bind (wpAny_layCells _ (fun name kind cells=>by cases hkc:kind == NameKind.cell <;> simp [hkc]) _ _ _ _ ?_)
 rw [show ({ s with heap:=s.heap.push { cls:=.type "dict",data:=.dict #[] } }:Shared).heap.objs.size=s.heap.objs.size+1 from Heap.size_push ..,cf,pc]
 rw [List.forIn_nil]
 exact wpAny_bind (wpAny_pure (wpAny_pure hQ))
section
variable {X:Cx} {scope:Scope} {Nc:List Str} {mp:List (Option Nat)} {tg iter elt:Expr} {ifs:List Expr} {pos:Pos} {wi:TI} {g:TG} {tt:TT} {te:TE} {x0:Str}
theorem compC_block {pins:List (Addr × Obj)} {σ:L2.St} {H:Hp} {s2:Shared} {it:Addr} {fp:List Addr} {tn:Nat->Heap->Prop} {J:It} {cl:List (Str × Addr)} {RR:Value->Addr->Result->Shared->Prop} {Q:VK}
  (hc:X.calm=true) (S:CompOkC X scope Nc mp x0)
  (hb:∀ c0 cl C s H fp,PG (compC X Nc scope x0 c0 cl C s H fp) tg g/\PTs (compC X Nc scope x0 c0 cl C s H fp) ifs tt/\PE (compC X Nc scope x0 c0 cl C s H fp) elt te)
  (h1:∀ x c,cl.lookup x=some c->X.env.cells.lookup x=some c) (h2:∀ y ∈ scope.names,y.2=.free->∃ c,cl.lookup y.1=some c)
  (I:Inv X pins σ H s2) (T:Turn X.prog X.w X.K tg J fp it tn) (st:tn 0 s2.heap) (hf:∀ b ∈ fp,FpOk X pins H b) (hw:wComp J g tt te Q (mapS mp σ) H)
  (hR:∀ D C s' H',s2.heap.objs.size<=C->s2.heap.objs.size<=D->D ≠ C->(∃ m,s'.heap.Ns C m)->(∀ h',Heap.SameBut C s'.heap h'->Inv X pins σ H' { s' with heap:=h' })->H' C=none->Q (.ref D) H'->RR (.ref D) C (.ok .next) s') :
  wpAny (model X.prog X.w) X.A (newList []) (fun acc s₃=>wpAny (model X.prog X.w) X.A (newFunctionEnv scope X.env.globals cl [] X.env.qual none .none (some X.env)) (fun cenv s₄=>
   codeAny (model X.prog X.w) X.A (.compStart (.ListComp elt [⟨tg,iter,ifs,0⟩] scope pos) 0 (.ref it) acc { cenv with scope:=relabel scope X.env }) (RR acc cenv.locals) s₄) X.xe s₃) X.xe s2:=by
 obtain ⟨W,⟨m0,w0⟩,turn⟩:=hw
 refine wpAny_newObj_type (newEnv_one S.cf S.pc ?_)
 generalize hH2:s2.heap.push { cls:=.type "list",dict:=none,data:=.seq ([]:List Value).toArray }=H2
 have hns₁:((H2.push { cls:=.type "dict",data:=.dict #[] }).push { cls:=.type "cell",data:=.cell none }).Ns H2.objs.size (fun _=>none):=(Heap.Ns.new H2 (.type "dict")).push _
 have hcell₁:((H2.push { cls:=.type "dict",data:=.dict #[] }).push { cls:=.type "cell",data:=.cell none }).IsCell (H2.objs.size+1) none:=⟨_,by rw [show H2.objs.size+1=(H2.push { cls:=.type "dict",data:=.dict #[] }).objs.size from (Heap.size_push ..).symm];exact Heap.get?_push_size _ rfl,rfl⟩
 have hsb₁:∀ b o,H2.get? b=some o->((H2.push { cls:=.type "dict",data:=.dict #[] }).push { cls:=.type "cell",data:=.cell none }).get? b=some o:=fun b o e=>Heap.get?_push_of_some _ (Heap.get?_push_of_some _ e)
 show codeAny _ X.A (.compStart _ 0 (.ref it) (.ref s2.heap.objs.size) (compEnvC scope ((x0,H2.objs.size+1) :: cl) H2.objs.size X.env)) (RR (.ref s2.heap.objs.size) H2.objs.size) { s2 with heap:=(H2.push { cls:=.type "dict",data:=.dict #[] }).push { cls:=.type "cell",data:=.cell none } }
 generalize (H2.push { cls:=.type "dict",data:=.dict #[] }).push { cls:=.type "cell",data:=.cell none }=h₁ at hns₁ hcell₁ hsb₁
 have hC:H2.objs.size=s2.heap.objs.size+1:=by rw [<-hH2,Heap.size_push]
 have hDC:s2.heap.objs.size ≠ H2.objs.size:=by rw [hC];exact Nat.ne_of_lt (Nat.lt_succ_self _)
 have hCle:s2.heap.objs.size<=H2.objs.size:=by rw [hC];exact Nat.le_succ _
 have hcle:s2.heap.objs.size<=H2.objs.size+1:=Nat.le_succ_of_le hCle
 have below:∀ b,b < s2.heap.objs.size->b ≠ H2.objs.size:=fun b hb=>by rw [hC];exact Nat.ne_of_lt (Nat.lt_succ_of_lt hb)
 have old:∀ b o,s2.heap.get? b=some o->h₁.get? b=some o:=fun b o e=>hsb₁ b o (hH2 ▸ Heap.get?_push_of_some _ e)
 have eD:h₁.get? s2.heap.objs.size=some { cls:=.type "list",data:=.seq ([]:List Value).toArray 0 }:=hsb₁ _ _ (hH2 ▸ Heap.get?_push_size _ rfl)
 have ho:∀ b ∈ fp,b < s2.heap.objs.size:=fun b hb=>by
  obtain ⟨o,e,_⟩:=T.obj 0 _ st b hb
  exact Heap.lt_size e
 generalize hYd:compC X Nc scope x0 (H2.objs.size+1) cl H2.objs.size s2 H fp=Y
 have bodies:=hb (H2.objs.size+1) cl H2.objs.size s2 H fp
 rw [hYd] at bodies
 obtain ⟨hg,htt,hte⟩:=bodies
 have I0:∀ tk,Inv Y [(s2.heap.objs.size,{ cls:=.type "list",data:=.seq ([]:List Value).toArray 0 })] (mapS mp σ) H { s2 with heap:=h₁,toks:=tk }:=fun tk=>by
  rw [<-hYd]
  exact compC_inv I S h1 h2 hCle hcle hcell₁ hf ho old hns₁ (Nat.le_refl _) hDC eD fun v z=>by cases z
 have hYp:Y.prog=X.prog:=by rw [<-hYd];rfl
 have hYw:Y.w=X.w:=by rw [<-hYd];rfl
 have hYK:Y.K=X.K:=by rw [<-hYd];rfl
 have hYA:Y.A=X.A:=by rw [<-hYd];rfl
 have hYc:Y.calm=true:=by rw [<-hYd];exact hc
 have hYx:Y.xe=fun _ _=>False:=by rw [<-hYd];rfl
 have hYe:Y.env=compEnvC scope ((x0,H2.objs.size+1) :: cl) H2.objs.size X.env:=by rw [<-hYd];rfl
 have hYs:Y.s₀=s2:=by rw [<-hYd];rfl
 have hYex:Y.ex=fp:=by rw [<-hYd];rfl
 have hYpn:Y.pn=[]:=by rw [<-hYd];rfl
 have hYfs:Y.fs=frs X.stack:=by rw [<-hYd];rfl
 -- the iterator's objects,in the block
 have fpY:∀ {o:Obj} {H':Hp},(∀ b ∈ fp,H' b=none)->∀ b ∈ fp,FpOk Y [(s2.heap.objs.size,o)] H' b:=fun {o H'} hn b hb=>by
  refine ⟨hn b hb,?_,?_,.inl (by rw [hYex];exact hb),fun x c e=>?_,fun p hp=>?_⟩
  ·rw [hYe];exact below b (ho b hb)
  ·rw [hYfs]
   intro z
   rcases List.mem_cons.mp (I.stkSub b z) with e | e
   ·exact (hf b hb).2.1 e
   ·exact (hf b hb).2.2.1 e
  ·rw [hYe] at e
   rcases lk_cons e with ⟨_,rfl⟩ | ⟨_,e⟩
   ·exact fun z=>absurd (Nat.lt_of_lt_of_le (ho b hb) hcle) (by rw [<-z];exact Nat.lt_irrefl _)
   ·exact (hf b hb).2.2.2.2.1 x c (h1 x c e)
  ·rw [hYpn] at hp
   have e:p=(s2.heap.objs.size,o):=by simpa using hp
   subst e
   exact Nat.ne_of_gt (ho b hb)
 have loop:∀ s₃:Shared,s₃={ s2 with heap:=h₁ } →
   codeAny (model X.prog X.w) X.A (.compLoop (.ListComp elt [⟨tg,iter,ifs,0⟩] scope pos) 0 (.ref it) (.ref s2.heap.objs.size) (compEnvC scope ((x0,H2.objs.size+1) :: cl) H2.objs.size X.env))
    (RR (.ref s2.heap.objs.size) H2.objs.size) s₃:=by
  rintro s₃ rfl
  refine compLoop_any (fun n s'=>∃ i σ' H' acc its k,Inv Y [(s2.heap.objs.size,{ cls:=.type "list",data:=.seq its.toArray k })] σ' H' s'/\tn i s'.heap/\(∀ b ∈ fp,H' b=none)/\Vals acc its/\acc.length<=sizeLine/\W i n σ' acc H') ?_ m0
   ⟨0,mapS mp σ,H,[],[],0,I0 _,T.keep 0 _ _ st fun b _ o e=>old b o e,fun b hb=>(hf b hb).1,.nil,Nat.zero_le _,w0⟩
  rintro n s3 ⟨i,σ3,H3,acc,its,k,I3,st3,fr3,hv,hz,w3⟩
  rcases turn i n σ3 acc H3 w3 with ⟨stop,hzz,qn⟩ | ⟨go,step⟩
  ·have hd:=T.done Y hYp hYw hYK hYc i _ s3 σ3 H3 NE I3 (fpY fr3) st3 stop
   rw [hYA] at hd
   refine thn hd fun r s4 ⟨hr,I4⟩=>?_
   subst hr
   have I4':=I4
   rw [<-hYd] at I4'
   have nC:H3 H2.objs.size=none:=by
    have z:=I4.free
    rw [hYe] at z
    exact z
   obtain ⟨_,nD⟩:=compC_out I hCle (Nat.le_refl _) hDC hf I4' (Heap.SameBut.refl _ s4.heap) hv hzz
   refine hR _ _ s4 _ hCle (Nat.le_refl _) hDC ?_ (fun h' hs'=>(compC_out I hCle (Nat.le_refl _) hDC hf I4' hs' hv hzz).1) ?_ (qn _ nD)
   ·obtain ⟨m',hn',_⟩:=I4.loc
    rw [hYe] at hn'
    exact ⟨m',hn'⟩
   ·rw [upd_ne (Ne.symm hDC)];exact nC
  ·have hi:=T.item Y hYp hYw hYK hYc i _ s3 σ3 H3 NE I3 (fpY fr3) st3 go
   rw [hYA] at hi
   refine thn hi fun r s4 ⟨u,hr,h4⟩=>?_
   subst hr
   refine thn h4 fun _ s5 ⟨x,H5,I5,r5,y5,st5,fr5⟩=>?_
   have I5':=I5.pinned (fpY fr5) (T.obj _ _ st5)
   have ha:=hg _ s5 σ3 H5 x u _ I5' r5 (step x H5 y5)
   rw [hYp,hYw,hYA,hYe,hYx] at ha
   refine thn ha fun _ s6 ⟨σ6,H6,I6,q6⟩=>?_
   have ht:=htt _ s6 σ6 H6 _ I6 q6
   rw [hYp,hYw,hYA,hYe,hYx] at ht
   refine thn ht fun ok s7 ⟨H7,I7,q7⟩=>?_
   cases ok with
   | false=>
    have q7':∃ m',m' < n/\W (i+1) m' σ6 acc H7:=q7
    obtain ⟨m',hm,w7⟩:=q7'
    rw [if_neg Bool.false_ne_true]
    refine ⟨m',hm,i+1,σ6,H7,acc,its,k,I7.unpinned,T.keep _ _ _ st5 fun b hb o e=>(I7.pin (b,o) (List.mem_append_right _ (List.mem_append_right _ (mem_pinsAt hb e)))).1,fun b hb=>?_,hv,hz,w7⟩
    obtain ⟨o,e,d⟩:=T.obj _ _ st5 b hb
    exact (I7.pin (b,o) (List.mem_append_right _ (List.mem_append_right _ (mem_pinsAt hb e)))).2.1
   | true=>
    rw [if_pos rfl]
    have he:=hte _ s7 σ6 H7 _ I7 q7
    rw [hYp,hYw,hYA,hYe,hYx] at he
    refine thn he fun x4 s8 ⟨v,H8,I8,r8,hlt,m',hm,w8⟩=>?_
    have st8:tn (i+1) s8.heap:=T.keep _ _ _ st5 fun b hb o e=>(I8.pin (b,o) (List.mem_append_right _ (List.mem_append_right _ (mem_pinsAt hb e)))).1
    have fr8:∀ b ∈ fp,H8 b=none:=fun b hb=>by
     obtain ⟨o,e,d⟩:=T.obj _ _ st5 b hb
     exact (I8.pin (b,o) (List.mem_append_right _ (List.mem_append_right _ (mem_pinsAt hb e)))).2.1
    have I8':=I8.unpinned
    obtain ⟨e8,n8,ne8,nf8,_⟩:=I8'.pin (s2.heap.objs.size,{ cls:=.type "list",data:=.seq its.toArray k }) (List.mem_append_right _ List.mem_cons_self)
    refine wpAny_list_append_plain (items:=its.toArray) ⟨k,e8⟩ (fun h9 hl9 hs9=>?_) (by rw [List.size_toArray,<-hv.length];exact hz)
    obtain ⟨k9,e9⟩:=hl9
    have ep:its.toArray.push x4=(its++[x4]).toArray:=by simp
    rw [ep] at e9
    -- the list has turned
    have I9:Inv Y [] σ6 H8 { s8 with heap:=h9 }:=by
     refine (I8'.pins_of (pins':=[]) fun p hp=>nomatch hp).turned (t':=s8.toks) (it:=s2.heap.objs.size) (fun b o hb e=>(hs9.2 b hb).trans e) n8 ne8 (.inr (by rw [hYs];exact Nat.le_refl _)) (fun x c e z=>?_) fun p hp=>?_
     ·rw [hYe] at e
      rcases lk_cons e with ⟨_,rfl⟩ | ⟨_,e⟩
      ·exact absurd z (Nat.ne_of_gt (Nat.lt_succ_of_le hCle))
      ·obtain ⟨v',o',ho',_⟩:=I.cell x c (h1 x c e)
       exact absurd (Heap.lt_size ho') (by rw [z];exact Nat.lt_irrefl _)
     ·rw [hYpn] at hp
      exact absurd hp (by simp)
    refine ⟨m',hm,i+1,σ6,H8,acc++[v],its++[x4],k9,I9.pins_of fun p hp=>?_,?_,fr8,hv.append (.cons r8 .nil),?_,w8⟩
    ·have e:p=(s2.heap.objs.size,{ cls:=.type "list",data:=.seq (its++[x4]).toArray k9 }):=by simpa using hp
     subst e
     exact ⟨e9,n8,ne8,nf8,fun v z=>by cases z⟩
    ·exact T.keep _ _ _ st8 fun b hb o e=>(hs9.2 b (Nat.ne_of_lt (ho b hb))).trans e
    ·rw [List.length_append,List.length_singleton];omega
 have hself:=T.self X.A 0 { s2 with heap:=h₁ } (fun it' s'=>codeAny (model X.prog X.w) X.A (.compLoop (.ListComp elt [⟨tg,iter,ifs,0⟩] scope pos) 0 it' (.ref s2.heap.objs.size) (compEnvC scope ((x0,H2.objs.size+1) :: cl) H2.objs.size X.env))
    (RR (.ref s2.heap.objs.size) H2.objs.size) s') (notedBy (model X.prog X.w) X.A (compEnvC scope ((x0,H2.objs.size+1) :: cl) H2.objs.size X.env) fun x s'=>RR (.ref s2.heap.objs.size) H2.objs.size (.error x) s') (T.keep 0 _ _ st fun b _ o e=>old b o e) (loop _ rfl)
 exact codeAny_compStart_list (loop _ rfl) hself
theorem closC_of (S:CompOkC X scope Nc mp x0) {pins:List (Addr × Obj)} {σ:L2.St} {H:Hp} {s:Shared} (I:Inv X pins σ H s):∃ cl,closureFor scope X.env=pure cl/\(∀ x c,cl.lookup x=some c->X.env.cells.lookup x=some c)/\(∀ y ∈ scope.names,y.2=.free->∃ c,cl.lookup y.1=some c):=
 closure_ok fun y hy hf=>I.ok.has y.1 (S.fre y hy hf)
theorem pe_compC (hc:X.calm=true) (S:CompOkC X scope Nc mp x0) (hi:PI X tg iter wi)
  (hb:∀ c0 cl C s H fp,PG (compC X Nc scope x0 c0 cl C s H fp) tg g/\PTs (compC X Nc scope x0 c0 cl C s H fp) ifs tt/\PE (compC X Nc scope x0 c0 cl C s H fp) elt te)
  (hs:∀ x,foldedSetIterable iter X.env x=pure x:=by intro _;rfl):PE X (.ListComp elt [⟨tg,iter,ifs,0⟩] scope pos) (tComp mp wi g tt te):=by
 intro pins s σ H Q I h
 obtain ⟨cl,hcl,h1,h2⟩:=closC_of S I
 rw [eval_ListComp]
 refine wpAny_comprehension_free (use:=none) rfl hs hcl S.kind S.loc (thn (hi pins s σ H _ I h) fun v s1 hv=>thn hv fun itv s2 hq=>?_)
 obtain ⟨it,fp,tn,J,H2,e,I2,T,st2,f2,hw⟩:=hq
 subst e
 refine compC_block (RR:=fun acc C=>compPost (model X.prog X.w) X.A X.xe none (EP X pins σ Q) acc C) (Q:=Q) hc S hb h1 h2 I2 T st2 f2 hw fun D C s' H' hC hD hDC hm hI hn hq=>?_
 obtain ⟨m,hm⟩:=hm
 exact ⟨m,hm,fun h' hs'=>⟨.ref D,H',hI h' hs',rfl,hq⟩⟩
end
def compChkC (sc:Scope) (N:List Str) (own:Scope) (Nc:List Str) (mp:List (Option Nat)) (x0:Str):Bool:=
 (own.kind == .function) && (own.names.all fun y=>y.2 != .cell || y.1 == x0) && (own.names.lookup x0 != some .free) && (own.names.all fun y=>y.2 != .local || own.names.lookup y.1 == some .local) &&
 (own.names.all fun y=>y.2 != .free || (sc.names.lookup y.1 == some .cell || sc.names.lookup y.1 == some .free)) && mapChk sc N own Nc mp
theorem CompOkC.of {X:Cx} {own:Scope} {Nc:List Str} {mp:List (Option Nat)} {x0:Str} (cf:∀ n acc,cellsFrom n own.names acc=(x0,n) :: acc) (pc:∀ h:Heap,pushCells h own.names=h.push { cls:=.type "cell",data:=.cell none }) (h:compChkC X.env.scope X.N own Nc mp x0=true):CompOkC X own Nc mp x0:=by
 unfold compChkC at h
 simp only [Bool.and_eq_true,List.all_eq_true,Bool.or_eq_true,beq_iff_eq,bne_iff_ne] at h
 obtain ⟨⟨⟨⟨⟨h1,h2⟩,h0⟩,h3⟩,h4⟩,h5⟩:=h
 refine ⟨h1,cf,pc,fun y hy e=>?_,h0,fun y hy e=>?_,fun y hy e=>?_,mapChk_ok h5⟩
 ·rcases h2 y hy with z | z
  ·exact absurd e z
  ·exact z
 ·rcases h3 y hy with z | z
  ·exact absurd e z
  ·exact z
 ·rcases h4 y hy with z | z
  ·exact absurd e z
  ·exact z
end L3
namespace L3
open PySem PySem.Spec PyProof.Rows L2
abbrev Cx.pinned (X:Cx) (pn:List (Addr × Obj)):Cx:={ X with pn:=pn }
abbrev cxT (X:Cx) (pn:List (Addr × Obj)) (E:XK):Cx:=(Cx.pinned X pn).wish (Fly (Cx.pinned X pn) E)
section
variable {X:Cx} {pins:List (Addr × Obj)} {σ:L2.St} {H:Hp} {s:Shared}
theorem ok_pinned (ok:X.Ok) (pn:List (Addr × Obj)):(Cx.pinned X pn).Ok:=
 ⟨ok.mod,ok.kind,ok.glob,ok.blt,ok.above,ok.inj,ok.has,ok.cab,ok.hd,ok.frames,ok.stk,ok.exf,ok.bs,ok.bsz,ok.noex,ok.exfs,ok.funs,ok.frf⟩
theorem inv_pinned (I:Inv X pins σ H s):Inv (Cx.pinned X (X.pn++pins)) [] σ H s:=
 ⟨ok_pinned I.ok _,I.os,I.bare,I.base,I.loc,I.cell,I.free,I.freeC,fun p hp=>I.pin p (by simpa using hp),I.hok,I.len⟩
theorem inv_unpinned {pins':List (Addr × Obj)} (ok:X.Ok) (I:Inv (Cx.pinned X (X.pn++pins)) pins' σ H s):Inv X pins σ H s:=
 ⟨ok,I.os,I.bare,I.base,I.loc,I.cell,I.free,I.freeC,fun p hp=>I.pin p (List.mem_append_left _ hp),I.hok,I.len⟩
theorem passesT {P:Program} {w:World} {pn:List (Addr × Obj)} {E:XK} (hP:X.prog=P) (hw:X.w=w) (hst:X.stack=X.env :: X.outer) (hex:X.ex=[]):Passes (CXv P w) (cxT X pn E) E:=by
 subst hP hw
 intro pins σ H s e s' I hx
 obtain ⟨ea,T0,C,H',rfl,x,n1,n2,t1,t2,os,bare,un,hok,hE⟩:=hx
 have I0:Inv (Cx.pinned X pn) pins σ H s:=I.unwish
 have I':Inv (Cx.pinned X pn) pins σ H' s':=I0.call' os un hok bare fun b z=>absurd z (by simp)
 exact ⟨pins,σ,H',ea,C,rfl,I',(nb_of I0 hex n1).to t1,hE,.inr ⟨T0,.none,x,(nb_of I0 hex n2).to t2,.inl rfl⟩⟩
def tTryF (K:PySem.W.Frag) (D:Addr) (tB:XK->TS) (tb:TS):TS:=fun De σ H=>tB (fun Cv _ H2=>∃ C,Cv=.ref C/\Hits K C D/\∀ σ',tb De σ' H2) De σ H
theorem sp_unpin {De:Ends} {fl:Flow} {E:XK} {s1:Shared} (ok:X.Ok) (h:SP (cxT X (X.pn++pins) E) [] De fl s1):SP X pins De fl s1:=by
 cases fl with
 | next=>obtain ⟨σ',H',I,q⟩:=h;exact ⟨σ',H',inv_unpinned ok I.unwish,q⟩
 | brk=>obtain ⟨σ',H',I,q⟩:=h;exact ⟨σ',H',inv_unpinned ok I.unwish,q⟩
 | cont=>obtain ⟨σ',H',I,q⟩:=h;exact ⟨σ',H',inv_unpinned ok I.unwish,q⟩
 | ret u=>obtain ⟨v,σ',H',I,r,q⟩:=h;exact ⟨v,σ',H',inv_unpinned ok I.unwish,r,q⟩
theorem ps_tryF {D:Addr} {c:Str} {body:List Stmt} {b0:Stmt} {suite:List Stmt} {tB:XK->TS} {tb:TS} {np hp tp:Pos} (hst:X.stack=X.env :: X.outer/\X.env.frame=some X.env.locals) (hex:X.ex=[])
  (hB:∀ pn E,PSs (cxT X pn E) body (tB E)) (hgc:Gl X c) (hmc:X.mg c=some (.ref D)) (hs:∀ ea,PSs (hand X ea) (b0 :: suite) tb) (hdc:(c == ("__debug__" : Str))=false:=by decide) :
  PS X (.Try body [.ExceptHandler (some (.Name c np)) none (b0 :: suite) hp] [] [] tp) (tTryF X.K D tB tb):=by
 intro pins s σ H De I h
 refine wpAny_Try_except (wpAny_mono (hB (X.pn++pins) _ [] s σ H De ((inv_pinned I).wish _) h) (fun fl s1 q=>?_) fun e s1 F=>?_)
 ·cases fl with
  | next=>exact wpAny_execs_nil (sp_unpin (fl:=.next) I.ok q)
  | brk=>exact sp_unpin (fl:=.brk) I.ok q
  | cont=>exact sp_unpin (fl:=.cont) I.ok q
  | ret u=>exact sp_unpin (fl:=.ret u) I.ok q
 have F':Fly (Cx.pinned X (X.pn++pins)) (fun Cv _ H2=>∃ C,Cv=.ref C/\Hits X.K C D/\∀ σ',tb De σ' H2) e s1:=F
 refine fly_note (X:=Cx.pinned X (X.pn++pins)) hst hex F' fun s2 N=>?_
 refine fly_set (to:=none) N fun s3 pins' σ' H' ea T C e1 I3 m1 m2 hE3 x3=>?_
 subst e1
 obtain ⟨C',eC,⟨vC,vD,hitF⟩,hand'⟩:=hE3
 cases eC
 have J2:Inv X pins σ' H' s3:=inv_unpinned I.ok I3
 have mT:NB X pins H' T:=⟨m2.s0,m2.loc,m2.cel,fun p hp=>m2.pin p (List.mem_append_left _ hp),m2.hp⟩
 obtain ⟨bmC,xC⟩:=VEx.cls J2.kIn vC
 obtain ⟨bmD,xD⟩:=VEx.cls J2.kIn vD
 obtain ⟨vs2,ob2,_⟩:=x3.ob
 refine wpAny_handleBy_cons (codeAny_handlers_test (ld_glob (X:=hand X ea) (inv_hand J2) hgc hmc ?_ hdc)) (fun z=>by cases z)
 refine exc_hit (s:=s3) xC xD ob2 rfl (hitF _ J2.kIn _ xC) ?_
 show codeAny _ _ _ _ _
 refine codeAny_handlers_suite ?_
 refine flight_set (s:=s3) (to:=none) x3 fun k3 x4 oth3 _=>?_
 have J3:Inv X pins σ' H' { s3 with heap:=k3 }:=
  inv_nb (t':=s3.toks) (S:=[T]) J2 ⟨fun b o e nb _=>(oth3 b fun z=>nb (by rw [z];simp)).trans e,fun b o e nb _=>⟨o.slots,(oth3 b fun z=>nb (by rw [z];simp)).trans e⟩⟩ fun b hb=>by rw [List.mem_singleton.mp hb];exact mT
 refine wpAny_mono (hs ea pins _ σ' H' De (inv_hand J3) (hand' σ')) (fun fl s6 q6=>?_) fun _ _ z=>False.elim z
 cases fl with
 | next=>obtain ⟨σ6,H6,I6,q⟩:=q6;exact ⟨σ6,H6,inv_unhand I.ok I6,q⟩
 | brk=>obtain ⟨σ6,H6,I6,q⟩:=q6;exact ⟨σ6,H6,inv_unhand I.ok I6,q⟩
 | cont=>obtain ⟨σ6,H6,I6,q⟩:=q6;exact ⟨σ6,H6,inv_unhand I.ok I6,q⟩
 | ret u=>obtain ⟨v,σ6,H6,I6,r6,q⟩:=q6;exact ⟨v,σ6,H6,inv_unhand I.ok I6,r6,q⟩
end
end L3
namespace K19
open PySem PySem.Spec PyProof.Rows L2 L3 Vm
section
variable {P:Program} {w:World} {K:PySem.W.Frag} {mg:Str->Option Value} {base:Heap}
structure Dfn (K:PySem.W.Frag) (mg:Str->Option Value) (x:Str) (st:Stmt) (f:Addr) (fd:FuncData) (ps:List Str):Prop where
 fn:Fun K x x st f fd
 at_:mg x=some (.ref f)
 bn:Binds K fd ps []
theorem kit_same (v:Value):PySem.W.kitOne K v v=some true:=by
 unfold PySem.W.kitOne
 rw [if_pos (beq_self_eq_true _)]
def cellD (ns:List Int) (k:Int):Int:=(ns[k.toNat]?).getD 0
def spCell (K:PySem.W.Frag):Sp:=fun vs H Q _=>∃ (a:Addr) (ns:List Int) (k:Int),vs=[.ref a,.int k]/\SqL K H a (ns.map V.int)/\0<=k/\Q (.int (cellD ns k)) H
theorem scCell:FnScope ["script","k"] ["script","k"] (defScope sCell):=⟨rfl,rfl,rfl,by decide +kernel,rfl,by decide +kernel,by decide +kernel⟩
theorem ok_cell {f:Addr} {fd:FuncData} (F:Fun K "_law_cell_at" "_law_cell_at" sCell f fd) (mlen:mg "len" = none):FnOk P w K mg base CX0 1 f fd ["script","k"] (spCell K):=by
 refine Fun.okR F scCell (fun vs H Q E h=>?_) (fun cdv A outer s H vs Q Q2 E hr h hq=>?_)
 ·obtain ⟨a,ns,k,rfl,_⟩:=h
  rfl
 ·obtain ⟨a,ns,k,rfl,hS,h0,q⟩:=h
  refine ⟨_,pss_cons (ps_if (pt_cmpR op_lt (pv 1) (pe_callB call_len_seq (by rfl) mlen PySem.boot_len (pa_cons (pv 0) pa_nil)) (nomark _)) (pss_one (ps_ret (pe_ix ix_list (pv 0) (pv 1) (fun _ _=>rfl)))) pss_nil)
   (pss_one (ps_ret pe_int)),?_⟩
  refine ⟨_,rfl,_,rfl,a,_,rfl,.inl hS,_,_,rfl,rfl,_,rfl,?_⟩
  obtain ⟨j,hj⟩:∃ j:Nat,k=(j:Int):=⟨k.toNat,by omega⟩
  subst hj
  refine ite2 (fun h=>?_) (fun h=>?_)
  ·have hl:=of_decide_eq_true h
   rw [List.length_map] at hl
   have hj':j < ns.length:=by omega
   have e:cellD ns (j:Int)=ns[j]:=by unfold cellD;rw [Int.toNat_natCast,List.getElem?_eq_getElem hj'];rfl
   rw [e] at q
   exact ⟨_,rfl,_,rfl,a,_,_,_,rfl,rfl,hS,atI_nat (by rw [List.getElem?_map,List.getElem?_eq_getElem hj'];rfl),hq _ _ (Rst.same (Same.refl H) q)⟩
  ·have hl:¬ ((j:Int) < ((ns.map V.int).length:Int)):=fun c=>h (decide_eq_true c)
   rw [List.length_map] at hl
   have e:cellD ns (j:Int)=0:=by unfold cellD;rw [Int.toNat_natCast,List.getElem?_eq_none (by omega)];rfl
   rw [e] at q
   exact hq _ _ (Rst.same (Same.refl H) q)
def spSwW (K:PySem.W.Frag):Sp:=fun vs H Q _=>∃ (p q:Addr) (es cs:List Str) (i j:Nat),vs=[.ref p,.ref q,.int (i:Nat),.int (j:Nat)]/\SqT K H p (es.map V.str)/\SqT K H q (cs.map V.str)/\Q (.bl (swapW es cs i j)) H
theorem scSwW:FnScope ["elder","copy","i","j"] ["elder","copy","i","j"] (defScope sSwW):=⟨rfl,rfl,rfl,by decide +kernel,rfl,by decide +kernel,by decide +kernel⟩
theorem ok_sww {f:Addr} {fd:FuncData} (F:Fun K "swap_writes" "swap_writes" sSwW f fd) (mlen:mg "len" = none):FnOk P w K mg base CX0 1 f fd ["elder","copy","i","j"] (spSwW K):=by
 refine Fun.okR F scSwW (fun vs H Q E h=>?_) (fun cdv A outer s H vs Q Q2 E hr h hq=>?_)
 ·obtain ⟨p,q,es,cs,i,j,rfl,_⟩:=h
  rfl
 ·obtain ⟨p,q0,es,cs,i,j,rfl,hp,hc,q⟩:=h
  refine ⟨_,pss_cons (ps_if (pw_or (pt_cmpR op_ge (pe_op op_add (pv 2) pe_int) (pe_callB call_len_seq (by rfl) mlen PySem.boot_len (pa_cons (pv 0) pa_nil)) (nomark _)) (pw_or1 (pt_cmpR op_eq (pe_ix ix_tup (pv 0) (pv 2) (fun _ _=>rfl)) (pe_ix ix_tup (pv 0) (pe_op op_add (pv 2) pe_int) (fun _ _=>rfl)) (nomark _)))).pt (pss_one (ps_ret pe_bl)) pss_nil)
   (pss_one (ps_ret (pe_cmpR (op_eqS hr.units) (pe_slice sl_tupA (pv 1) (po_some (pv 3)) (po_some (pe_op op_add (pv 3) pe_int))) (pe_tup (pa_cons (pe_ix ix_tup (pv 0) (pe_op op_add (pv 2) pe_int) (fun _ _=>rfl)) (pa_cons (pe_ix ix_tup (pv 0) (pv 2) (fun _ _=>rfl)) pa_nil))) (nomark _)))),?_⟩
  have go:∀ b H',Same H H'->swapW es cs i j=b->Q2 (.bl b) H':=fun b H' S e=>hq _ _ (Rst.same S (by rw [<-e];exact q))
  have hlen:(es.map V.str).length=es.length:=List.length_map ..
  refine ⟨_,rfl,_,_,rfl,rfl,_,rfl,p,_,rfl,.inr hp,_,_,rfl,rfl,_,rfl,?_⟩
  rw [hlen]
  refine ite2 (fun h=>iteT (go _ _ (Same.refl _) ?_)) (fun h=>?_)
  ·have:=of_decide_eq_true h
   unfold swapW
   rw [if_neg (by omega)]
  have hi:¬ ((es.length:Int)<=((i:Nat):Int)+1):=fun c=>h (decide_eq_true c)
  have e1:((i:Nat):Int)+1=((i+1:Nat):Int):=by omega
  refine ⟨_,rfl,_,rfl,p,_,_,_,rfl,rfl,hp,at_w (by omega),_,rfl,_,rfl,_,_,rfl,rfl,p,_,_,_,rfl,rfl,hp,(by rw [e1];exact at_w (by omega)),rfl,_,rfl,?_⟩
  refine ite2 (fun h2=>go _ _ (Same.refl _) ?_) (fun h2=>?_)
  ·have e:=of_decide_eq_true h2
   injection e with e
   unfold swapW
   rw [if_pos (by omega),if_pos e]
  have hne:¬ gt es i=gt es (i+1):=fun c=>h2 (decide_eq_true (by rw [c]))
  refine ⟨_,rfl,_,rfl,_,rfl,_,rfl,_,_,rfl,rfl,_,rfl,cutTup hc fun pc Hc Sc hpc=>?_⟩
  rw [cutV_two] at hpc
  refine ⟨_,rfl,_,rfl,_,_,rfl,rfl,p,_,_,_,rfl,rfl,sameT Sc hp,(by rw [e1];exact at_w (by omega)),_,rfl,_,rfl,p,_,_,_,rfl,rfl,sameT Sc hp,at_w (by omega),few (by show 2<=_;omega),fun t ht=>?_⟩
  have St:=same_upd (o:=.tup [.str (gt es (i+1)),.str (gt es i)]) ht
  have q1:SqT K (upd Hc t (.tup [.str (gt es (i+1)),.str (gt es i)])) t ([gt es (i+1),gt es i].map V.str):=SqT.of upd_same
  refine ⟨0,_,by decide,EqS.strs (.inr ⟨sameT St hpc,q1⟩),go _ _ (Sc.trans St) ?_⟩
  unfold swapW
  rw [if_pos (by omega),if_neg hne]
def spSkL (K:PySem.W.Frag):Sp:=fun vs H Q _=>∃ (p:Addr) (es:List Str) (i:Nat),vs=[.ref p,.int (i:Nat)]/\SqT K H p (es.map V.str)/\i<=es.length/\es.length<=1000/\∀ l,H l=none->Q (.ref l) (upd H l (.lst ((skips es i).map fun k=>.int ((k:Nat):Int))))
theorem scSkL:FnScope ["elder","i"] ["elder","i"] (defScope sSkL):=⟨rfl,rfl,rfl,by decide +kernel,rfl,by decide +kernel,by decide +kernel⟩
theorem nd_kei:(["k","elder","i"]:List Str).Nodup:=by decide +kernel
theorem ok_skl {f:Addr} {fd:FuncData} (F:Fun K "skip_lengths" "skip_lengths" sSkL f fd) (mlen:mg "len" = none) (mrange:mg "range" = none):FnOk P w K mg base CX0 1 f fd ["elder","i"] (spSkL K):=by
 refine F.ok scSkL (fun vs H Q E h=>?_) (fun cdv A outer s H vs Q E hr h=>?_)
 ·obtain ⟨p,es,i,rfl,_⟩:=h
  rfl
 ·obtain ⟨p,es,i,rfl,hp,hi,hel,q⟩:=h
  refine ⟨_,pss_cons (ps_if (pt_cmpR op_eq (pv 1) pe_int (nomark _)) (pss_one (ps_ret (pe_lst pa_nil))) pss_nil)
   (pss_one (ps_ret (pe_comp (Nc:=["k","elder","i"]) (mp:=[none,some 0,some 1]) rfl (CompOk.of (by rfl)) (pi_range2 (by rfl) mrange (pa_cons pe_int (pa_cons (pe_op op_add (pe_op op_sub (pe_callB call_len_seq (by rfl) mlen PySem.boot_len (pa_cons (pv 0) pa_nil)) (pv 1)) pe_int) pa_nil)))
    (fun cl C s H fp=>⟨pg_name (i:=0) nd_kei rfl (Or.inl rfl),pts_one (pt_cmpR op_eq (pe_ix (ix_tupK (K:=K) rfl) (pv 1) (pe_op op_sub (pe_op op_add (pv 2) (pv 0)) pe_int) (fun _ _=>rfl)) (pe_ix (ix_tupK (K:=K) rfl) (pv 1) (pe_op op_sub (pv 2) pe_int) (fun _ _=>rfl)) (nomark _)),pv 0⟩)))),?_⟩
  have hlen:(es.map V.str).length=es.length:=List.length_map ..
  refine ⟨_,rfl,rfl,_,rfl,?_⟩
  by_cases h0:i=0
  ·refine iteY (by rw [h0];rfl) ⟨Nat.zero_le _,fun l hl=>?_⟩
   have:=q l hl
   unfold skips at this
   rw [if_pos h0] at this
   exact this
  refine iteK (fun e=>h0 (by injection e with e;omega)) ?_
  refine ⟨_,rfl,p,_,rfl,.inr hp,_,rfl,_,_,rfl,rfl,_,_,rfl,rfl,1,_,rfl,⟨by decide,by decide,by rw [hlen];omega,by rw [hlen];omega⟩,?_⟩
  have en:((((es.map V.str).length:Int) - ((i:Nat):Int)+1) - 1).toNat=es.length - i:=by rw [hlen];omega
  rw [en]
  refine comp_pure (as:=List.range (es.length - i)) (v:=fun k=>.int (1+((k:Nat):Int))) (fun k=>decide (gt es (i+k)=gt es (i - 1))) (fun k=>.int (1+((k:Nat):Int))) (src_range 1 (es.length - i) H) (by rw [List.length_range];exact few (by omega)) (fun k hk K' hK'=>?_) (fun k hk _ K' hK'=>⟨_,rfl,hK'⟩) (fun D hD=>?_)
  ·have hk':=List.mem_range.mp hk
   have e1:((i:Nat):Int)+(1+((k:Nat):Int)) - 1=((i+k:Nat):Int):=by omega
   have e2:((i:Nat):Int) - 1=((i - 1:Nat):Int):=by omega
   refine ⟨_,rfl,_,rfl,_,rfl,_,_,rfl,rfl,_,_,rfl,rfl,p,_,_,_,rfl,rfl,hp,(by rw [e1];exact at_w (by omega)),_,rfl,_,rfl,_,_,rfl,rfl,p,_,_,_,rfl,rfl,hp,(by rw [e2];exact at_w (by omega)),rfl,_,rfl,?_⟩
   rw [str_dec]
   exact hK'
  ·have:=q D hD
   unfold skips at this
   rw [if_neg h0,List.map_map] at this
   have ef:(fun k:Nat=>V.int (1+((k:Nat):Int)))=((fun k:Nat=>V.int ((k:Nat):Int)) ∘ fun x=>x+1):=by
    funext k
    show V.int (1+((k:Nat):Int))=V.int (((k+1:Nat)):Int)
    congr 1;omega
   rw [ef]
   exact this
def spWays (K:PySem.W.Frag):Sp:=fun vs H Q _=>∃ (p q:Addr) (es cs:List Str) (i j:Nat),vs=[.ref p,.ref q,.int (i:Nat),.int (j:Nat)]/\SqT K H p (es.map V.str)/\SqT K H q (cs.map V.str)/\i<=es.length/\j<=cs.length/\es.length<=1000 ∧
 ∀ (H':Hp) (l:Addr) (as:List Addr),Same H H'->H' l=some (.lst (as.map V.ref))->WaysAt H' as (ways es cs i j)->Q (.ref l) H'
theorem scWays:FnScope ["elder","copy","i","j","ways","step"] ["elder","copy","i","j"] (defScope sWays):=⟨rfl,rfl,rfl,by decide +kernel,rfl,by decide +kernel,by decide +kernel⟩
theorem nd_kij:(["k","i","j"]:List Str).Nodup:=by decide +kernel
theorem ok_ways {f gS gK:Addr} {fd dS dK:FuncData} (F:Fun K "knot_ways" "knot_ways" sWays f fd) (DS:Dfn K mg "swap_writes" sSwW gS dS ["elder","copy","i","j"]) (DK:Dfn K mg "skip_lengths" sSkL gK dK ["elder","i"]) (mlen:mg "len" = none) (mrange:mg "range" = none):FnOk P w K mg base CX0 2 f fd ["elder","copy","i","j"] (spWays K):=by
 have GS:FnOk P w K mg base CX0 1 gS dS ["elder","copy","i","j"] (spSwW K):=ok_sww DS.fn mlen
 have GK:FnOk P w K mg base CX0 1 gK dK ["elder","i"] (spSkL K):=ok_skl DK.fn mlen mrange
 refine F.ok scWays (fun vs H Q E h=>?_) (fun cdv A outer s H vs Q E hr h=>?_)
 ·obtain ⟨p,q,es,cs,i,j,rfl,_⟩:=h
  rfl
 ·obtain ⟨p,q0,es,cs,i,j,rfl,hp,hc,hi,hj,hel,q⟩:=h
  refine ⟨_,pss_cons (ps_set (i:=4) scWays.nd rfl (Or.inl rfl) (pe_lst pa_nil))
   (pss_cons (ps_mid (ps_if (pw_and (pt_cmpR op_lt (pv 2) (pe_callB call_len_seq (by rfl) mlen PySem.boot_len (pa_cons (pv 0) pa_nil)) (nomark _)) (pw_and1 (pt_cmpR op_lt (pv 3) (pe_callB call_len_seq (by rfl) mlen PySem.boot_len (pa_cons (pv 1) pa_nil)) (nomark _)))).pt
    (pss_cons (ps_set (i:=5) scWays.nd rfl (Or.inl rfl) (pe_ifExp (pt_cmpR op_eq (pe_ix ix_tup (pv 0) (pv 2) (fun _ _=>rfl)) (pe_ix ix_tup (pv 1) (pv 3) (fun _ _=>rfl)) (nomark _)) (pe_tup (pa_cons pe_str pa_nil)) (pe_tup (pa_cons pe_str (pa_cons (pe_ix ix_tup (pv 1) (pv 3) (fun _ _=>rfl)) pa_nil)))))
    (pss_one (ps_expr (pe_bm PySem.F.plainAttrs_list PySem.F.slot_list_append PySem.F.type_list_append mt_append (pv 4) (pa_cons (pe_tup (pa_cons (pv 5) (pa_cons (pe_op op_add (pv 2) pe_int) (pa_cons (pe_op op_add (pv 3) pe_int) pa_nil)))) pa_nil))))) pss_nil))
   (pss_cons (ps_mid (ps_if (pt_cmpR op_lt (pv 2) (pe_callB call_len_seq (by rfl) mlen PySem.boot_len (pa_cons (pv 0) pa_nil)) (nomark _)) (pss_one (ps_expr (pe_bm PySem.F.plainAttrs_list PySem.F.slot_list_append PySem.F.type_list_append mt_append (pv 4) (pa_cons (pe_tup (pa_cons (pe_tup (pa_cons pe_str pa_nil)) (pa_cons (pe_op op_add (pv 2) pe_int) (pa_cons (pv 3) pa_nil)))) pa_nil)))) pss_nil))
   (pss_cons (ps_mid (ps_if (pt_cmpR op_lt (pv 3) (pe_callB call_len_seq (by rfl) mlen PySem.boot_len (pa_cons (pv 1) pa_nil)) (nomark _)) (pss_one (ps_expr (pe_bm PySem.F.plainAttrs_list PySem.F.slot_list_append PySem.F.type_list_append mt_append (pv 4) (pa_cons (pe_tup (pa_cons (pe_tup (pa_cons pe_str (pa_cons (pe_ix ix_tup (pv 1) (pv 3) (fun _ _=>rfl)) pa_nil))) (pa_cons (pv 2) (pa_cons (pe_op op_add (pv 3) pe_int) pa_nil)))) pa_nil)))) pss_nil))
   (pss_cons (ps_mid (ps_if (pw_and (pt_chain op_lt op_lt pe_int (pv 3) (pe_callB call_len_seq (by rfl) mlen PySem.boot_len (pa_cons (pv 1) pa_nil))) (pw_and1 (pt_cmpR op_eq (pe_ix ix_tup (pv 1) (pv 3) (fun _ _=>rfl)) (pe_ix ix_tup (pv 1) (pe_op op_sub (pv 3) pe_int) (fun _ _=>rfl)) (nomark _)))).pt
    (pss_one (ps_expr (pe_bm PySem.F.plainAttrs_list PySem.F.slot_list_append PySem.F.type_list_append mt_append (pv 4) (pa_cons (pe_tup (pa_cons (pe_tup (pa_cons pe_str pa_nil)) (pa_cons (pv 2) (pa_cons (pe_op op_add (pv 3) pe_int) pa_nil)))) pa_nil)))) pss_nil))
   (pss_cons (ps_mid (ps_if (pt_val (pe_call GS hr (by rfl) DS.at_ DS.fn.kp DS.bn .nil pass0 (pa_cons (pv 0) (pa_cons (pv 1) (pa_cons (pv 2) (pa_cons (pv 3) pa_nil)))))) (pss_one (ps_expr (pe_bm PySem.F.plainAttrs_list PySem.F.slot_list_append PySem.F.type_list_append mt_append (pv 4) (pa_cons (pe_tup (pa_cons (pe_tup (pa_cons pe_str pa_nil)) (pa_cons (pe_op op_add (pv 2) pe_int) (pa_cons (pe_op op_add (pv 3) pe_int) pa_nil)))) pa_nil)))) pss_nil))
   (pss_cons (ps_expr (pe_bm PySem.F.plainAttrs_list PySem.F.slot_list_extend PySem.F.type_list_extend mt_extend (pv 4) (pa_cons (pe_comp (Nc:=["k","i","j"]) (mp:=[none,some 2,some 3]) rfl (CompOk.of (by rfl)) (pi_list (pe_call GK hr (by rfl) DK.at_ DK.fn.kp DK.bn .nil pass0 (pa_cons (pv 0) (pa_cons (pv 2) pa_nil))))
    (fun cl C s H fp=>⟨pg_name (i:=0) nd_kij rfl (Or.inl rfl),pts_nil,pe_tup (pa_cons (pe_tup (pa_cons pe_str (pa_cons (pv 0) pa_nil))) (pa_cons (pe_op op_add (pv 1) (pv 0)) (pa_cons (pv 2) pa_nil)))⟩)) pa_nil)))
   (pss_one (ps_ret (pv 4))))))))),?_⟩
  have z1:(1:Nat)<=sizeLine:=few (by omega)
  have z2:(2:Nat)<=sizeLine:=few (by omega)
  have z3:(3:Nat)<=sizeLine:=few (by omega)
  have hle:(es.map V.str).length=es.length:=List.length_map ..
  have hlc:(cs.map V.str).length=cs.length:=List.length_map ..
  have ei1:((i:Nat):Int)+1=((i+1:Nat):Int):=by omega
  have ej1:((j:Nat):Int)+1=((j+1:Nat):Int):=by omega
  have ei2:((i:Nat):Int)+2=((i+2:Nat):Int):=by omega
  have ej2:((j:Nat):Int)+2=((j+2:Nat):Int):=by omega
  have dle:decide (((i:Nat):Int) < ((es.map V.str).length:Int))=decide (i < es.length):=by rw [hle];exact decide_eq_decide.mpr (by omega)
  have dlc:decide (((j:Nat):Int) < ((cs.map V.str).length:Int))=decide (j < cs.length):=by rw [hlc];exact decide_eq_decide.mpr (by omega)
  refine ⟨Nat.zero_le _,fun l hl=>?_⟩
  refine ⟨fun σ' H'=>∃ (v5:Option V) (as:List Addr),σ'=[some (.ref p),some (.ref q0),some (.int (i:Nat)),some (.int (j:Nat)),some (.ref l),v5]/\H' l=some (.lst (as.map V.ref))/\Same H H'/\WaysAt H' as (w1 es cs i j)/\as.length<=1,?_,?_⟩
  ·refine ⟨_,rfl,_,rfl,p,_,rfl,.inr (sameT (same_upd hl) hp),_,_,rfl,rfl,_,rfl,?_⟩
   rw [dle]
   refine ite2 (fun h1=>?_) (fun h1=>iteF ⟨none,[],rfl,upd_same,same_upd hl,?_,Nat.zero_le _⟩)
   ·have h1:=of_decide_eq_true h1
    refine ⟨_,rfl,_,rfl,q0,_,rfl,.inr (sameT (same_upd hl) hc),_,_,rfl,rfl,_,rfl,?_⟩
    rw [dlc]
    refine ite2 (fun h2=>?_) (fun h2=>⟨none,[],rfl,upd_same,same_upd hl,?_,Nat.zero_le _⟩)
    ·have h2:=of_decide_eq_true h2
     have ew:w1 es cs i j=[((if gt es i=gt cs j then .keep else .turn (gt cs j)),i+1,j+1)]:=by unfold w1;rw [if_pos ⟨h1,h2⟩]
     rw [ew]
     have S0:=same_upd (o:=.lst []) hl
     have l0:upd H l (.lst []) l=some (.lst (([]:List Addr).map V.ref)):=upd_same
     refine ⟨_,rfl,_,rfl,p,_,_,_,rfl,rfl,sameT S0 hp,at_w h1,_,rfl,_,rfl,q0,_,_,_,rfl,rfl,sameT S0 hc,at_w h2,rfl,_,rfl,?_⟩
     have fin:∀ st:Sk,(if gt es i=gt cs j then Sk.keep else .turn (gt cs j))=st->∀ t,upd H l (.lst []) t=none->∀ a,upd (upd H l (.lst [])) t (.tup (stepV st)) a=none →
       upd (upd (upd H l (.lst [])) t (.tup (stepV st))) a (.tup (wayV t (st,i+1,j+1))) l=some (.lst (([]:List Addr).map V.ref)) ∧
       ∃ (v5:Option V) (as:List Addr),[some (V.ref p),some (V.ref q0),some (V.int (i:Nat)),some (V.int (j:Nat)),some (V.ref l),some (V.ref t)]=[some (.ref p),some (.ref q0),some (.int (i:Nat)),some (.int (j:Nat)),some (.ref l),v5] ∧
        upd (upd (upd (upd H l (.lst [])) t (.tup (stepV st))) a (.tup (wayV t (st,i+1,j+1)))) l (.lst (([]:List Addr).map V.ref++[.ref a])) l=some (.lst (as.map V.ref)) ∧
        Same H (upd (upd (upd (upd H l (.lst [])) t (.tup (stepV st))) a (.tup (wayV t (st,i+1,j+1)))) l (.lst (([]:List Addr).map V.ref++[.ref a]))) ∧
        WaysAt (upd (upd (upd (upd H l (.lst [])) t (.tup (stepV st))) a (.tup (wayV t (st,i+1,j+1)))) l (.lst (([]:List Addr).map V.ref++[.ref a]))) as [((if gt es i=gt cs j then .keep else .turn (gt cs j)),i+1,j+1)]/\as.length<=1:=fun st e t ht a ha=>by
      obtain ⟨b1,b2,b3,b4⟩:=way_add (x:=(st,i+1,j+1)) S0 hl l0 WaysAt.nil ht ha
      exact ⟨b1,_,[a],rfl,b2,b3,by rw [e];exact b4,Nat.le_refl _⟩
     by_cases he:gt es i=gt cs j
     ·refine iteY (by rw [he]) ⟨z1,fun t ht=>?_⟩
      have k1:=same_upd (o:=.tup (stepV .keep)) ht _ _ l0
      refine ⟨_,rfl,.inl ⟨rfl,_,SqL.of k1⟩,_,rfl,_,rfl,_,_,rfl,rfl,_,rfl,_,_,rfl,rfl,z3,fun a ha=>?_⟩
      obtain ⟨c1,c2⟩:=fin .keep (by rw [if_pos he]) t ht a ha
      exact ⟨l,_,_,rfl,rfl,c1,fewer (by show 0<=_;omega),c2⟩
     ·refine iteK (fun e=>he (by injection e)) ⟨_,rfl,_,rfl,q0,_,_,_,rfl,rfl,sameT S0 hc,at_w h2,z2,fun t ht=>?_⟩
      have k1:=same_upd (o:=.tup (stepV (.turn (gt cs j)))) ht _ _ l0
      refine ⟨_,rfl,.inl ⟨rfl,_,SqL.of k1⟩,_,rfl,_,rfl,_,_,rfl,rfl,_,rfl,_,_,rfl,rfl,z3,fun a ha=>?_⟩
      obtain ⟨c1,c2⟩:=fin (.turn (gt cs j)) (by rw [if_neg he]) t ht a ha
      exact ⟨l,_,_,rfl,rfl,c1,fewer (by show 0<=_;omega),c2⟩
    ·have h2:¬ j < cs.length:=fun c=>h2 (decide_eq_true c)
     unfold w1
     rw [if_neg (by omega)]
     exact WaysAt.nil
   ·have h1:¬ i < es.length:=fun c=>h1 (decide_eq_true c)
    unfold w1
    rw [if_neg (by omega)]
    exact WaysAt.nil
  rintro σ' H1 ⟨v5,as1,rfl,k1,S1,W1,L1⟩
  -- one way more,or none: the rest of the ifs
  have step:∀ {H2:Hp} {as:List Addr} {ws:List Way} (x:Way),H2 l=some (.lst (as.map V.ref))->Same H H2->WaysAt H2 as ws->∀ t,H2 t=none->∀ a,upd H2 t (.tup (stepV x.1)) a=none →
    upd (upd H2 t (.tup (stepV x.1))) a (.tup (wayV t x)) l=some (.lst (as.map V.ref))/\upd (upd (upd H2 t (.tup (stepV x.1))) a (.tup (wayV t x))) l (.lst (as.map V.ref++[.ref a])) l=some (.lst ((as++[a]).map V.ref)) ∧
    Same H (upd (upd (upd H2 t (.tup (stepV x.1))) a (.tup (wayV t x))) l (.lst (as.map V.ref++[.ref a])))/\WaysAt (upd (upd (upd H2 t (.tup (stepV x.1))) a (.tup (wayV t x))) l (.lst (as.map V.ref++[.ref a]))) (as++[a]) (ws++[x]):=fun x k S W t ht a ha=>way_add S hl k W ht ha
  -- lose
  refine ⟨fun σ' H'=>∃ (v5:Option V) (as:List Addr),σ'=[some (.ref p),some (.ref q0),some (.int (i:Nat)),some (.int (j:Nat)),some (.ref l),v5]/\H' l=some (.lst (as.map V.ref))/\Same H H'/\WaysAt H' as (w1 es cs i j++w2 es i j)/\as.length<=2,?_,?_⟩
  ·refine ⟨_,rfl,_,rfl,p,_,rfl,.inr (sameT S1 hp),_,_,rfl,rfl,_,rfl,?_⟩
   rw [dle]
   refine ite2 (fun h=>?_) (fun h=>⟨v5,as1,rfl,k1,S1,?_,by omega⟩)
   ·have h:=of_decide_eq_true h
    refine ⟨_,rfl,.inl ⟨rfl,_,SqL.of k1⟩,z1,fun t ht=>?_⟩
    refine ⟨_,rfl,_,_,rfl,rfl,_,rfl,z3,fun a ha=>?_⟩
    obtain ⟨c1,c2,c3,c4⟩:=step (.lose,i+1,j) k1 S1 W1 t ht a ha
    refine ⟨l,_,_,rfl,rfl,c1,(by rw [List.length_map];exact fewer (by omega)),v5,as1++[a],rfl,c2,c3,?_,by rw [List.length_append];show _+1<=_;omega⟩
    unfold w2
    rw [if_pos h]
    exact c4
   ·have h:¬ i < es.length:=fun c=>h (decide_eq_true c)
    unfold w2
    rw [if_neg h,List.append_nil]
    exact W1
  rintro σ' H2 ⟨v5,as2,rfl,k2,S2,W2,L2⟩
  -- add
  refine ⟨fun σ' H'=>∃ (v5:Option V) (as:List Addr),σ'=[some (.ref p),some (.ref q0),some (.int (i:Nat)),some (.int (j:Nat)),some (.ref l),v5]/\H' l=some (.lst (as.map V.ref))/\Same H H'/\WaysAt H' as (w1 es cs i j++w2 es i j++w3 cs i j)/\as.length<=3,?_,?_⟩
  ·refine ⟨_,rfl,_,rfl,q0,_,rfl,.inr (sameT S2 hc),_,_,rfl,rfl,_,rfl,?_⟩
   rw [dlc]
   refine ite2 (fun h=>?_) (fun h=>⟨v5,as2,rfl,k2,S2,?_,by omega⟩)
   ·have h:=of_decide_eq_true h
    refine ⟨_,rfl,.inl ⟨rfl,_,SqL.of k2⟩,_,rfl,_,rfl,q0,_,_,_,rfl,rfl,sameT S2 hc,at_w h,z2,fun t ht=>?_⟩
    refine ⟨_,rfl,_,rfl,_,_,rfl,rfl,z3,fun a ha=>?_⟩
    obtain ⟨c1,c2,c3,c4⟩:=step (.add (gt cs j),i,j+1) k2 S2 W2 t ht a ha
    refine ⟨l,_,_,rfl,rfl,c1,(by rw [List.length_map];exact fewer (by omega)),v5,as2++[a],rfl,c2,c3,?_,by rw [List.length_append];show _+1<=_;omega⟩
    unfold w3
    rw [if_pos h]
    exact c4
   ·have h:¬ j < cs.length:=fun c=>h (decide_eq_true c)
    unfold w3
    rw [if_neg h,List.append_nil]
    exact W2
  rintro σ' H3 ⟨v5,as3,rfl,k3,S3,W3,L3⟩
  -- twice
  refine ⟨fun σ' H'=>∃ (v5:Option V) (as:List Addr),σ'=[some (.ref p),some (.ref q0),some (.int (i:Nat)),some (.int (j:Nat)),some (.ref l),v5]/\H' l=some (.lst (as.map V.ref))/\Same H H'/\WaysAt H' as (w1 es cs i j++w2 es i j++w3 cs i j++w4 cs i j)/\as.length<=4,?_,?_⟩
  ·have none4:¬ (0 < j/\j < cs.length/\gt cs j=gt cs (j - 1))->∃ (v5':Option V) (as:List Addr),[some (V.ref p),some (V.ref q0),some (V.int (i:Nat)),some (V.int (j:Nat)),some (V.ref l),v5]=[some (.ref p),some (.ref q0),some (.int (i:Nat)),some (.int (j:Nat)),some (.ref l),v5']/\H3 l=some (.lst (as.map V.ref))/\Same H H3/\WaysAt H3 as (w1 es cs i j++w2 es i j++w3 cs i j++w4 cs i j)/\as.length<=4:=fun h=>by
    refine ⟨v5,as3,rfl,k3,S3,?_,by omega⟩
    unfold w4
    rw [if_neg h,List.append_nil]
    exact W3
   refine ⟨_,rfl,_,_,rfl,rfl,_,rfl,?_⟩
   refine ite2 (fun h0=>?_) (fun h0=>?_)
   ·have h0:=of_decide_eq_true h0
    refine ⟨_,rfl,q0,_,rfl,.inr (sameT S3 hc),_,_,rfl,rfl,_,rfl,?_⟩
    rw [dlc]
    refine ite2 (fun h1=>?_) (fun h1=>iteF (none4 fun c=>h1 (decide_eq_true c.2.1)))
    have h1:=of_decide_eq_true h1
    have e2:((j:Nat):Int) - 1=((j - 1:Nat):Int):=by omega
    refine ⟨_,rfl,_,rfl,q0,_,_,_,rfl,rfl,sameT S3 hc,at_w h1,_,rfl,_,rfl,_,_,rfl,rfl,q0,_,_,_,rfl,rfl,sameT S3 hc,(by rw [e2];exact at_w (by omega)),rfl,_,rfl,?_⟩
    refine ite2 (fun h2=>?_) (fun h2=>none4 fun c=>h2 (decide_eq_true (by rw [c.2.2])))
    have h2:=of_decide_eq_true h2
    injection h2 with h2
    refine ⟨_,rfl,.inl ⟨rfl,_,SqL.of k3⟩,z1,fun t ht=>?_⟩
    refine ⟨_,rfl,_,rfl,_,_,rfl,rfl,z3,fun a ha=>?_⟩
    obtain ⟨c1,c2,c3,c4⟩:=step (.twice,i,j+1) k3 S3 W3 t ht a ha
    refine ⟨l,_,_,rfl,rfl,c1,(by rw [List.length_map];exact fewer (by omega)),v5,as3++[a],rfl,c2,c3,?_,by rw [List.length_append];show _+1<=_;omega⟩
    unfold w4
    rw [if_pos ⟨by omega,h1,h2⟩]
    exact c4
   ·have h0:¬ ((0:Int) < ((j:Nat):Int)):=fun c=>h0 (decide_eq_true c)
    exact ⟨_,rfl,iteF (iteF (none4 fun c=>h0 (by omega)))⟩
  rintro σ' H4 ⟨v5,as4,rfl,k4,S4,W4,L4⟩
  -- swap
  refine ⟨fun σ' H'=>∃ (v5:Option V) (as:List Addr),σ'=[some (.ref p),some (.ref q0),some (.int (i:Nat)),some (.int (j:Nat)),some (.ref l),v5]/\H' l=some (.lst (as.map V.ref))/\Same H H'/\WaysAt H' as (w1 es cs i j++w2 es i j++w3 cs i j++w4 cs i j++w5 es cs i j)/\as.length<=5,?_,?_⟩
  ·refine ⟨_,rfl,_,rfl,_,rfl,_,rfl,p,q0,es,cs,i,j,rfl,sameT S4 hp,sameT S4 hc,_,rfl,?_⟩
   cases hsw:swapW es cs i j with
   | false=>
    refine iteF ⟨v5,as4,rfl,k4,S4,?_,by omega⟩
    unfold w5
    rw [hsw,if_neg Bool.false_ne_true,List.append_nil]
    exact W4
   | true=>
    refine iteT ⟨_,rfl,.inl ⟨rfl,_,SqL.of k4⟩,z1,fun t ht=>?_⟩
    refine ⟨_,rfl,_,_,rfl,rfl,_,rfl,_,_,rfl,rfl,z3,fun a ha=>?_⟩
    obtain ⟨c1,c2,c3,c4⟩:=step (.swap,i+2,j+2) k4 S4 W4 t ht a ha
    refine ⟨l,_,_,rfl,rfl,c1,(by rw [List.length_map];exact fewer (by omega)),v5,as4++[a],rfl,c2,c3,?_,by rw [List.length_append];show _+1<=_;omega⟩
    unfold w5
    rw [hsw,if_pos rfl]
    exact c4
  rintro σ' H5 ⟨v5,as5,rfl,k5,S5,W5,L5⟩
  -- skips
  have hskl:(skips es i).length<=1000:=by
   unfold skips
   split
   ·exact Nat.zero_le _
   ·rw [List.length_map]
    exact Nat.le_trans (List.length_filter_le _ _) (by rw [List.length_range];omega)
  refine ⟨_,rfl,.inl ⟨rfl,_,SqL.of k5⟩,_,rfl,_,rfl,p,es,i,rfl,sameT S5 hp,hi,hel,fun ls hls=>?_⟩
  have S6:=same_upd (o:=.lst ((skips es i).map fun k=>.int ((k:Nat):Int))) hls
  have s6:upd H5 ls (.lst ((skips es i).map fun k=>.int ((k:Nat):Int))) ls=some (.lst ((skips es i).map fun k=>.int ((k:Nat):Int))):=upd_same
  generalize hH6:upd H5 ls (.lst ((skips es i).map fun k=>.int ((k:Nat):Int)))=H6 at S6 s6
  refine ⟨ls,rfl,⟨_,SqL.of s6⟩,comp_grow (as:=skips es i) (v:=fun k=>.int ((k:Nat):Int)) (fun n acc H'=>∃ bs:List Addr,acc=bs.map V.ref/\WaysAt H' bs ((w6 es i j).take n)/\bs.length=n/\Same H6 H') (fun n acc H' _ ⟨_,_,_,_,S⟩=>src_list (SqL.of (S _ _ s6))) (few (by omega))
   ⟨[],rfl,WaysAt.nil,rfl,Same.refl _⟩ (fun n acc H' ⟨bs,e,_,hl,_⟩=>by rw [e,List.length_map,hl]) ?_ ?_⟩
  ·rintro n k acc H' hk ⟨bs,rfl,hW,hbl,S⟩ kk hkk
   refine ⟨_,rfl,z2,fun t ht=>?_⟩
   refine ⟨_,rfl,_,rfl,_,_,rfl,rfl,_,rfl,z3,fun a ha=>?_⟩
   have T1:=same_upd (o:=.tup (stepV (.skip k))) ht
   have ek:((i:Nat):Int)+((k:Nat):Int)=((i+k:Nat):Int):=by omega
   have T2:=same_upd (o:=.tup (wayV t (.skip k,i+k,j))) ha
   refine hkk _ _ ⟨bs++[a],by rw [List.map_append];rfl,?_,by rw [List.length_append,hbl];rfl,(S.trans T1).trans T2⟩
   have hnl:n < (w6 es i j).length:=by unfold w6;rw [List.length_map];exact (List.getElem?_eq_some_iff.mp hk).1
   have hx:(w6 es i j)[n]?=some (.skip k,i+k,j):=by unfold w6;rw [List.getElem?_map,hk];rfl
   rw [List.take_succ_eq_append_getElem hnl,(List.getElem?_eq_some_iff.mp hx).2]
   exact ((hW.mono T1).mono T2).app (WaysAt.one (x:=(.skip k,i+k,j)) upd_same (T2 _ _ upd_same))
  ·rintro acc H7 ⟨bs,rfl,hW,hbl,S7⟩ D hD
   have S8:=same_upd (o:=.lst (bs.map V.ref)) hD
   have k8:=S8 _ _ (S7 _ _ (S6 _ _ k5))
   have w8:(w6 es i j).take (skips es i).length=w6 es i j:=by
    have:(w6 es i j).length=(skips es i).length:=by unfold w6;rw [List.length_map]
    rw [<-this,List.take_length]
   rw [w8] at hW
   refine ⟨l,D,_,_,rfl,rfl,k8,upd_same,(by rw [List.length_map,List.length_map,hbl];exact few (by omega)),?_⟩
   refine ⟨_,rfl,q _ l (as5++bs) (same_to ((((S5.trans S6).trans S7)).trans S8) hl) (by rw [upd_same,List.map_append]) ?_⟩
   unfold ways
   exact ((((W5.mono S6).mono S7).mono S8).app (hW.mono S8)).set k8
def spAlike:Sp:=fun vs H Q _=>∃ a b:Str,vs=[.str a,.str b]/\a.length<=sizeLine/\b.length<=sizeLine/\Q (.bl (alikeB a.cps.toList b.cps.toList)) H
theorem scLooks:FnScope ["one","two","unlike"] ["one","two"] (defScope sLooks):=⟨rfl,rfl,rfl,by decide +kernel,rfl,by decide +kernel,by decide +kernel⟩
theorem nd_Looks:(["place","one","two"]:List Str).Nodup:=by decide +kernel
theorem ok_Looks {f:Addr} {fd:FuncData} (F:Fun K "looks_alike" "looks_alike" sLooks f fd) (mlen:mg "len" = none) (mrange:mg "range" = none):FnOk P w K mg base CX0 1 f fd ["one","two"] spAlike:=by
 refine Fun.okR F scLooks (fun vs H Q E h=>?_) (fun cdv A outer s H vs Q Q2 E hr h hq=>?_)
 ·obtain ⟨a,b,rfl,_⟩:=h
  rfl
 ·obtain ⟨a,b,rfl,ha,hb,q⟩:=h
  refine ⟨_,pss_cons (ps_if (pt_cmpR op_ne (pe_callB call_len_str (by rfl) mlen PySem.boot_len (pa_cons (pv 0) pa_nil)) (pe_callB call_len_str (by rfl) mlen PySem.boot_len (pa_cons (pv 1) pa_nil)) (nomark _)) (pss_one (ps_ret pe_bl)) pss_nil)
   (pss_cons (ps_setC (i:=2) (Nc:=["place","one","two"]) (mp:=[none,some 0,some 1]) rfl scLooks.nd rfl rfl (CompOk.of (by rfl)) (pi_range1 (by rfl) mrange (pa_cons (pe_callB call_len_str (by rfl) mlen PySem.boot_len (pa_cons (pv 0) pa_nil)) pa_nil))
    (fun cl C s H fp=>⟨pg_name (i:=0) nd_Looks rfl (Or.inl rfl),pts_one (pt_cmpR op_ne (pe_ix ix_str (pv 1) (pv 0) (fun _ _=>rfl)) (pe_ix ix_str (pv 2) (pv 0) (fun _ _=>rfl)) (nomark _)),pv 0⟩))
   (pss_one (ps_ret (pe_cmpR op_eq (pe_callB call_len_seq (by rfl) mlen PySem.boot_len (pa_cons (pv 2) pa_nil)) pe_int (nomark _))))),?_⟩
  refine ⟨_,rfl,a,rfl,ha,_,rfl,b,rfl,hb,rfl,_,rfl,?_⟩
  by_cases hl:a.length=b.length
  ·refine iteNS (by rw [hl]) ?_
   refine ⟨_,rfl,a,rfl,ha,(a.length:Int),rfl,(by omega),(by have:=szl;omega),?_⟩
   rw [Int.toNat_natCast]
   refine comp_pure (as:=List.range a.length) (v:=fun i=>.int (0+(i:Nat))) (fun i=>!decide (a.cps.toList[i]?=b.cps.toList[i]?)) (fun i=>.int (0+(i:Nat))) (src_range 0 a.length H) (by rw [List.length_range];exact ha) (fun i hi k hk=>?_) (fun i hi _ k hk=>?_) (fun D hD=>?_)
   ·have hi':=List.mem_range.mp hi
    have ea:a.cps.toList[i]?=some a.cps.toList[i]:=List.getElem?_eq_getElem (by rw [clen];exact hi')
    have eb:b.cps.toList[i]?=some b.cps.toList[i]:=List.getElem?_eq_getElem (by rw [clen,<-hl];exact hi')
    have ei:(0:Int)+((i:Nat):Int)=((i:Nat):Int):=by omega
    refine ⟨_,rfl,_,rfl,a,_,a.cps.toList[i],rfl,rfl,ha,(by rw [ei];exact atI_nat ea),_,rfl,_,rfl,b,_,b.cps.toList[i],rfl,rfl,hb,(by rw [ei];exact atI_nat eb),rfl,_,rfl,?_⟩
    have e:(!decide (V.str ⟨#[a.cps.toList[i]]⟩=V.str ⟨#[b.cps.toList[i]]⟩))=(!decide (a.cps.toList[i]?=b.cps.toList[i]?)):=by
     rw [ea,eb]
     congr 1
     exact decide_eq_decide.mpr ⟨fun z=>by injection z with z;injection z with z;simpa using z,fun z=>by rw [Option.some.inj z]⟩
    rw [e];exact hk
   ·exact ⟨_,rfl,hk⟩
   ·refine ⟨_,rfl,D,_,rfl,.inl (SqL.of upd_same),rfl,hq _ _ (Rst.same (same_upd hD) ?_)⟩
    rw [List.length_map]
    have e:decide (V.int (((List.range a.length).filter fun i=>!decide (a.cps.toList[i]?=b.cps.toList[i]?)).length:Nat)=V.int 1)=alikeB a.cps.toList b.cps.toList:=by
     unfold alikeB placesB
     rw [if_pos (by rw [clen,clen];exact hl),clen]
     exact decide_eq_decide.mpr ⟨fun z=>by injection z with z;omega,fun z=>by rw [z];rfl⟩
    rw [e];exact q
  ·refine ite2 (fun _=>?_) (fun h=>?_)
   ·refine hq _ _ (Rst.same (Same.refl H) ?_)
    have e:alikeB a.cps.toList b.cps.toList=false:=by
     unfold alikeB
     rw [if_neg (by rw [clen,clen];exact hl)]
    rw [<-e];exact q
   ·exfalso
    refine h ?_
    rw [decide_eq_false (fun z=>hl (by injection z with z;omega))];rfl
def spSkF (K:PySem.W.Frag):Sp:=fun vs H Q _=>∃ (p:Addr) (es:List Str) (d m:Nat),vs=[.ref p,.int (d:Nat),.int (m:Nat)]/\SqT K H p (es.map V.str)/\1<=m/\Q (.bl (skipB es d m)) H
theorem scSkF:FnScope ["elder","done","many"] ["elder","done","many"] (defScope sSkF):=⟨rfl,rfl,rfl,by decide +kernel,rfl,by decide +kernel,by decide +kernel⟩
theorem ok_skf {f:Addr} {fd:FuncData} (F:Fun K "skip_fits" "skip_fits" sSkF f fd) (mlen:mg "len" = none):FnOk P w K mg base CX0 1 f fd ["elder","done","many"] (spSkF K):=by
 refine Fun.okR F scSkF (fun vs H Q E h=>?_) (fun cdv A outer s H vs Q Q2 E hr h hq=>?_)
 ·obtain ⟨p,es,d,m,rfl,_⟩:=h
  rfl
 ·obtain ⟨p,es,d,m,rfl,hp,hm,q⟩:=h
  refine ⟨_,pss_cons (ps_if (pw_or (pt_cmpR op_lt (pv 1) pe_int (nomark _)) (pw_or1 (pt_cmpR op_gt (pe_op op_add (pv 1) (pv 2)) (pe_callB call_len_seq (by rfl) mlen PySem.boot_len (pa_cons (pv 0) pa_nil)) (nomark _)))).pt (pss_one (ps_ret pe_bl)) pss_nil)
   (pss_one (ps_ret (pe_cmpR op_eq (pe_ix ix_tup (pv 0) (pe_op op_sub (pe_op op_add (pv 1) (pv 2)) pe_int) (fun _ _=>rfl)) (pe_ix ix_tup (pv 0) (pe_op op_sub (pv 1) pe_int) (fun _ _=>rfl)) (nomark _)))),?_⟩
  have go:∀ b,skipB es d m=b->Q2 (.bl b) H:=fun b e=>hq _ _ (Rst.same (Same.refl H) (by rw [<-e];exact q))
  have hlen:(es.map V.str).length=es.length:=List.length_map ..
  refine ⟨_,rfl,_,_,rfl,rfl,_,rfl,?_⟩
  refine ite2 (fun h=>iteT (go _ ?_)) (fun h=>?_)
  ·have:=of_decide_eq_true h
   unfold skipB
   rw [decide_eq_false (by omega),Bool.false_and]
  have h1:¬ ((d:Int) < 1):=fun c=>h (decide_eq_true c)
  refine ⟨_,rfl,_,rfl,_,_,rfl,rfl,_,rfl,p,_,rfl,.inr hp,_,_,rfl,rfl,_,rfl,?_⟩
  rw [hlen]
  refine ite2 (fun h2=>go _ ?_) (fun h2=>?_)
  ·have:=of_decide_eq_true h2
   unfold skipB
   rw [decide_eq_false (by omega),Bool.false_and]
  have h3:¬ ((es.length:Int) < (d:Int)+(m:Int)):=fun c=>h2 (decide_eq_true c)
  have e1:(d:Int)+(m:Int) - 1=((d+m - 1:Nat):Int):=by omega
  have e2:(d:Int) - 1=((d - 1:Nat):Int):=by omega
  refine ⟨_,rfl,_,rfl,_,rfl,_,_,rfl,rfl,_,_,rfl,rfl,p,_,_,_,rfl,rfl,hp,(by rw [e1];exact at_w (by omega)),_,rfl,_,rfl,_,_,rfl,rfl,p,_,_,_,rfl,rfl,hp,(by rw [e2];exact at_w (by omega)),rfl,go _ ?_⟩
  unfold skipB
  rw [decide_eq_true (by omega),Bool.true_and,str_dec,gt_of (show d - 1 < es.length by omega),some_dec (by omega)]
def spFits (K:PySem.W.Frag):Sp:=fun vs H Q _=>∃ (p t:Addr) (es:List Str) (d:Nat) (last:Option Str) (st:Sk),vs=[.ref p,.int (d:Nat),optS last,.ref t]/\SqT K H p (es.map V.str)/\SqT K H t (stepV st)/\okS st/\Q (.bl (fitsB es d last st)) H
theorem scFits:FnScope ["elder","done","last","step","kind"] ["elder","done","last","step"] (defScope sFits):=⟨rfl,rfl,rfl,by decide +kernel,rfl,by decide +kernel,by decide +kernel⟩
theorem ok_fits {f g:Addr} {fd gd:FuncData} (F:Fun K "step_fits" "step_fits" sFits f fd) (D:Dfn K mg "skip_fits" sSkF g gd ["elder","done","many"]) (mlen:mg "len" = none):FnOk P w K mg base CX0 2 f fd ["elder","done","last","step"] (spFits K):=by
 have G:FnOk P w K mg base CX0 1 g gd ["elder","done","many"] (spSkF K):=ok_skf D.fn mlen
 refine Fun.okR F scFits (fun vs H Q E h=>?_) (fun cdv A outer s H vs Q Q2 E hr h hq=>?_)
 ·obtain ⟨p,t,es,d,last,st,rfl,_⟩:=h
  rfl
 ·obtain ⟨p,t,es,d,last,st,rfl,hp,ht,hok,q⟩:=h
  refine ⟨_,pss_cons (ps_set (i:=4) scFits.nd rfl (Or.inl rfl) (pe_ix ix_tup (pv 3) pe_int (fun _ _=>rfl)))
   (pss_cons (ps_if (pt_cmpR op_eq (pv 4) pe_str (nomark _)) (pss_one (ps_ret pe_bl)) pss_nil)
   (pss_cons (ps_if (pt_cmpR op_eq (pv 4) pe_str (nomark _)) (pss_one (ps_ret (pe_cmpR op_notN (pv 2) pe_non (nomark _)))) pss_nil)
   (pss_cons (ps_if (pt_cmpR op_eq (pv 4) pe_str (nomark _)) (pss_one (ps_ret (pe_and (pe_cmpR op_lt (pe_op op_add (pv 1) pe_int) (pe_callB call_len_seq (by rfl) mlen PySem.boot_len (pa_cons (pv 0) pa_nil)) (nomark _)) (pe_one (pe_cmpR op_ne (pe_ix ix_tup (pv 0) (pv 1) (fun _ _=>rfl)) (pe_ix ix_tup (pv 0) (pe_op op_add (pv 1) pe_int) (fun _ _=>rfl)) (nomark _)))))) pss_nil)
   (pss_cons (ps_if (pt_cmpR op_eq (pv 4) pe_str (nomark _)) (pss_one (ps_ret (pe_call G hr (by rfl) D.at_ D.fn.kp D.bn .nil pass0 (pa_cons (pv 0) (pa_cons (pv 1) (pa_cons (pe_ix ix_tup (pv 3) pe_int (fun _ _=>rfl)) pa_nil)))))) pss_nil)
   (pss_cons (ps_if (pt_cmpR op_eq (pv 4) pe_str (nomark _)) (pss_one (ps_ret (pe_and (pe_cmpR op_lt (pv 1) (pe_callB call_len_seq (by rfl) mlen PySem.boot_len (pa_cons (pv 0) pa_nil)) (nomark _)) (pe_one (pe_cmpR op_ne (pe_ix ix_tup (pv 0) (pv 1) (fun _ _=>rfl)) (pe_ix ix_tup (pv 3) pe_int (fun _ _=>rfl)) (nomark _)))))) pss_nil)
   (pss_one (ps_ret (pe_cmpR op_lt (pv 1) (pe_callB call_len_seq (by rfl) mlen PySem.boot_len (pa_cons (pv 0) pa_nil)) (nomark _))))))))),?_⟩
  have go:∀ b,fitsB es d last st=b->Q2 (.bl b) H:=fun b e=>hq _ _ (Rst.same (Same.refl H) (by rw [<-e];exact q))
  have hlen:(es.map V.str).length=es.length:=List.length_map ..
  have dl:decide (((d:Nat):Int) < ((es.map V.str).length:Int))=decide (d < es.length):=by rw [hlen];exact decide_eq_decide.mpr (by omega)
  have dl1:decide (((d:Nat):Int)+1 < ((es.map V.str).length:Int))=decide (d+1 < es.length):=by rw [hlen];exact decide_eq_decide.mpr (by omega)
  cases st with
  | add z=>
   refine ⟨_,rfl,t,_,_,_,rfl,rfl,ht,rfl,?_⟩
   exact ⟨_,rfl,rfl,_,rfl,iteY rfl (go _ rfl)⟩
  | twice=>
   refine ⟨_,rfl,t,_,_,_,rfl,rfl,ht,rfl,?_⟩
   refine ⟨_,rfl,rfl,_,rfl,iteK (by decide +kernel) ?_⟩
   refine ⟨_,rfl,rfl,_,rfl,iteY rfl ⟨_,rfl,rfl,go _ ?_⟩⟩
   cases last with
   | none=>rfl
   | some l=>rfl
  | swap=>
   refine ⟨_,rfl,t,_,_,_,rfl,rfl,ht,rfl,?_⟩
   refine ⟨_,rfl,rfl,_,rfl,iteK (by decide +kernel) ?_⟩
   refine ⟨_,rfl,rfl,_,rfl,iteK (by decide +kernel) ?_⟩
   refine ⟨_,rfl,rfl,_,rfl,iteY rfl ?_⟩
   refine ⟨_,rfl,_,_,rfl,rfl,_,rfl,p,_,rfl,.inr hp,_,_,rfl,rfl,_,rfl,?_⟩
   rw [dl1]
   refine ite2 (fun h=>?_) (fun h=>?_)
   ·have hd:=of_decide_eq_true h
    have e1:((d:Nat):Int)+1=((d+1:Nat):Int):=by omega
    refine ⟨_,rfl,_,rfl,p,_,_,_,rfl,rfl,hp,at_w (by omega),_,rfl,_,rfl,_,_,rfl,rfl,p,_,_,_,rfl,rfl,hp,(by rw [e1];exact at_w hd),rfl,go _ ?_⟩
    show (decide (d+1 < es.length) && !decide (es[d]?=es[d+1]?))=_
    rw [h,Bool.true_and,gt_of hd,some_dec (by omega),str_dec]
   ·refine go _ ?_
    show (decide (d+1 < es.length) && !decide (es[d]?=es[d+1]?))=_
    rw [decide_eq_false (fun c=>h (decide_eq_true c)),Bool.false_and]
  | skip m=>
   refine ⟨_,rfl,t,_,_,_,rfl,rfl,ht,rfl,?_⟩
   refine ⟨_,rfl,rfl,_,rfl,iteK (by decide +kernel) ?_⟩
   refine ⟨_,rfl,rfl,_,rfl,iteK (by decide +kernel) ?_⟩
   refine ⟨_,rfl,rfl,_,rfl,iteK (by decide +kernel) ?_⟩
   refine ⟨_,rfl,rfl,_,rfl,iteY rfl ?_⟩
   exact ⟨_,rfl,_,rfl,_,rfl,t,_,_,_,rfl,rfl,ht,rfl,p,es,d,m,rfl,hp,hok.1,go _ rfl⟩
  | turn z=>
   refine ⟨_,rfl,t,_,_,_,rfl,rfl,ht,rfl,?_⟩
   refine ⟨_,rfl,rfl,_,rfl,iteK (by decide +kernel) ?_⟩
   refine ⟨_,rfl,rfl,_,rfl,iteK (by decide +kernel) ?_⟩
   refine ⟨_,rfl,rfl,_,rfl,iteK (by decide +kernel) ?_⟩
   refine ⟨_,rfl,rfl,_,rfl,iteK (by decide +kernel) ?_⟩
   refine ⟨_,rfl,rfl,_,rfl,iteY rfl ?_⟩
   refine ⟨_,rfl,_,rfl,p,_,rfl,.inr hp,_,_,rfl,rfl,_,rfl,?_⟩
   rw [dl]
   refine ite2 (fun h=>?_) (fun h=>?_)
   ·have hd:=of_decide_eq_true h
    refine ⟨_,rfl,_,rfl,p,_,_,_,rfl,rfl,hp,at_w hd,_,rfl,t,_,_,_,rfl,rfl,ht,rfl,rfl,go _ ?_⟩
    show (decide (d < es.length) && !decide (es[d]?=some z))=_
    rw [h,Bool.true_and,some_dec hd,str_dec]
   ·refine go _ ?_
    show (decide (d < es.length) && !decide (es[d]?=some z))=_
    rw [decide_eq_false (fun c=>h (decide_eq_true c)),Bool.false_and]
  | keep=>
   refine ⟨_,rfl,t,_,_,_,rfl,rfl,ht,rfl,?_⟩
   refine ⟨_,rfl,rfl,_,rfl,iteK (by decide +kernel) ?_⟩
   refine ⟨_,rfl,rfl,_,rfl,iteK (by decide +kernel) ?_⟩
   refine ⟨_,rfl,rfl,_,rfl,iteK (by decide +kernel) ?_⟩
   refine ⟨_,rfl,rfl,_,rfl,iteK (by decide +kernel) ?_⟩
   refine ⟨_,rfl,rfl,_,rfl,iteK (by decide +kernel) ?_⟩
   exact ⟨_,rfl,_,rfl,p,_,rfl,.inr hp,_,_,rfl,rfl,go _ dl.symm⟩
  | lose=>
   refine ⟨_,rfl,t,_,_,_,rfl,rfl,ht,rfl,?_⟩
   refine ⟨_,rfl,rfl,_,rfl,iteK (by decide +kernel) ?_⟩
   refine ⟨_,rfl,rfl,_,rfl,iteK (by decide +kernel) ?_⟩
   refine ⟨_,rfl,rfl,_,rfl,iteK (by decide +kernel) ?_⟩
   refine ⟨_,rfl,rfl,_,rfl,iteK (by decide +kernel) ?_⟩
   refine ⟨_,rfl,rfl,_,rfl,iteK (by decide +kernel) ?_⟩
   exact ⟨_,rfl,_,rfl,p,_,rfl,.inr hp,_,_,rfl,rfl,go _ dl.symm⟩
def spWd (K:PySem.W.Frag):Sp:=fun vs H Q _=>∃ (t:Addr) (st:Sk),vs=[.ref t]/\SqT K H t (stepV st)/\Q (.int (wd st:Nat)) H
theorem scWd:FnScope ["step","kind"] ["step"] (defScope sWd):=⟨rfl,rfl,rfl,by decide +kernel,rfl,by decide +kernel,by decide +kernel⟩
theorem ok_wd {f:Addr} {fd:FuncData} (F:Fun K "words_done" "words_done" sWd f fd):FnOk P w K mg base CX0 1 f fd ["step"] (spWd K):=by
 refine Fun.okR F scWd (fun vs H Q E h=>?_) (fun cdv A outer s H vs Q Q2 E hr h hq=>?_)
 ·obtain ⟨t,st,rfl,_⟩:=h
  rfl
 ·obtain ⟨t,st,rfl,ht,q⟩:=h
  refine ⟨_,pss_cons (ps_set (i:=1) scWd.nd rfl (Or.inl rfl) (pe_ix ix_tup (pv 0) pe_int (fun _ _=>rfl)))
   (pss_cons (ps_if (pw_or (pt_cmpR op_eq (pv 1) pe_str (nomark _)) (pw_or1 (pt_cmpR op_eq (pv 1) pe_str (nomark _)))).pt (pss_one (ps_ret pe_int)) pss_nil)
   (pss_cons (ps_if (pt_cmpR op_eq (pv 1) pe_str (nomark _)) (pss_one (ps_ret pe_int)) pss_nil)
   (pss_cons (ps_if (pt_cmpR op_eq (pv 1) pe_str (nomark _)) (pss_one (ps_ret (pe_ix ix_tup (pv 0) pe_int (fun _ _=>rfl)))) pss_nil)
   (pss_one (ps_ret pe_int))))),?_⟩
  have go:=hq _ _ (Rst.same (Same.refl H) q)
  cases st with
  | add z=>exact ⟨_,rfl,t,_,_,_,rfl,rfl,ht,rfl,_,rfl,rfl,_,rfl,iteY rfl (iteT go)⟩
  | twice=>exact ⟨_,rfl,t,_,_,_,rfl,rfl,ht,rfl,_,rfl,rfl,_,rfl,iteK (by decide +kernel) ⟨_,rfl,rfl,_,rfl,iteY rfl go⟩⟩
  | swap=>exact ⟨_,rfl,t,_,_,_,rfl,rfl,ht,rfl,_,rfl,rfl,_,rfl,iteK (by decide +kernel) ⟨_,rfl,rfl,_,rfl,iteK (by decide +kernel) ⟨_,rfl,rfl,_,rfl,iteY rfl go⟩⟩⟩
  | skip m=>exact ⟨_,rfl,t,_,_,_,rfl,rfl,ht,rfl,_,rfl,rfl,_,rfl,iteK (by decide +kernel) ⟨_,rfl,rfl,_,rfl,iteK (by decide +kernel) ⟨_,rfl,rfl,_,rfl,iteK (by decide +kernel) ⟨_,rfl,rfl,_,rfl,iteY rfl ⟨_,rfl,t,_,_,_,rfl,rfl,ht,rfl,go⟩⟩⟩⟩⟩
  | turn z=>exact ⟨_,rfl,t,_,_,_,rfl,rfl,ht,rfl,_,rfl,rfl,_,rfl,iteK (by decide +kernel) ⟨_,rfl,rfl,_,rfl,iteK (by decide +kernel) ⟨_,rfl,rfl,_,rfl,iteK (by decide +kernel) ⟨_,rfl,rfl,_,rfl,iteK (by decide +kernel) go⟩⟩⟩⟩
  | keep=>exact ⟨_,rfl,t,_,_,_,rfl,rfl,ht,rfl,_,rfl,rfl,_,rfl,iteK (by decide +kernel) ⟨_,rfl,rfl,_,rfl,iteK (by decide +kernel) ⟨_,rfl,rfl,_,rfl,iteK (by decide +kernel) ⟨_,rfl,rfl,_,rfl,iteK (by decide +kernel) go⟩⟩⟩⟩
  | lose=>exact ⟨_,rfl,t,_,_,_,rfl,rfl,ht,rfl,_,rfl,rfl,_,rfl,iteK (by decide +kernel) ⟨_,rfl,rfl,_,rfl,iteK (by decide +kernel) ⟨_,rfl,rfl,_,rfl,iteK (by decide +kernel) ⟨_,rfl,rfl,_,rfl,iteK (by decide +kernel) go⟩⟩⟩⟩
def spWw (K:PySem.W.Frag):Sp:=fun vs H Q _=>∃ (p t:Addr) (es:List Str) (d:Nat) (last:Option Str) (st:Sk),vs=[.ref p,.int (d:Nat),optS last,.ref t]/\SqT K H p (es.map V.str)/\SqT K H t (stepV st)/\fitsB es d last st=true/\∀ r,H r=none->Q (.ref r) (upd H r (.tup ((ww es d last st).map V.str)))
theorem scWw:FnScope ["elder","done","last","step","kind"] ["elder","done","last","step"] (defScope sWw):=⟨rfl,rfl,rfl,by decide +kernel,rfl,by decide +kernel,by decide +kernel⟩
theorem ok_ww {f:Addr} {fd:FuncData} (F:Fun K "words_written" "words_written" sWw f fd):FnOk P w K mg base CX0 1 f fd ["elder","done","last","step"] (spWw K):=by
 refine Fun.okR F scWw (fun vs H Q E h=>?_) (fun cdv A outer s H vs Q Q2 E hr h hq=>?_)
 ·obtain ⟨p,t,es,d,last,st,rfl,_⟩:=h
  rfl
 ·obtain ⟨p,t,es,d,last,st,rfl,hp,ht,hf,q⟩:=h
  refine ⟨_,pss_cons (ps_set (i:=4) scWw.nd rfl (Or.inl rfl) (pe_ix ix_tup (pv 3) pe_int (fun _ _=>rfl)))
   (pss_cons (ps_if (pw_or (pt_cmpR op_eq (pv 4) pe_str (nomark _)) (pw_or1 (pt_cmpR op_eq (pv 4) pe_str (nomark _)))).pt (pss_one (ps_ret (pe_tup pa_nil))) pss_nil)
   (pss_cons (ps_if (pw_or (pt_cmpR op_eq (pv 4) pe_str (nomark _)) (pw_or1 (pt_cmpR op_eq (pv 4) pe_str (nomark _)))).pt (pss_one (ps_ret (pe_tup (pa_cons (pe_ix ix_tup (pv 3) pe_int (fun _ _=>rfl)) pa_nil)))) pss_nil)
   (pss_cons (ps_if (pt_cmpR op_eq (pv 4) pe_str (nomark _)) (pss_one (ps_ret (pe_tup (pa_cons (pv 2) pa_nil)))) pss_nil)
   (pss_cons (ps_if (pt_cmpR op_eq (pv 4) pe_str (nomark _)) (pss_one (ps_ret (pe_tup (pa_cons (pe_ix ix_tup (pv 0) (pe_op op_add (pv 1) pe_int) (fun _ _=>rfl)) (pa_cons (pe_ix ix_tup (pv 0) (pv 1) (fun _ _=>rfl)) pa_nil))))) pss_nil)
   (pss_one (ps_ret (pe_tup (pa_cons (pe_ix ix_tup (pv 0) (pv 1) (fun _ _=>rfl)) pa_nil)))))))),?_⟩
  have go:∀ r,H r=none->Q2 (.ref r) (upd H r (.tup ((ww es d last st).map V.str))):=fun r hr'=>hq _ _ (Rst.one (same_upd hr') hr' upd_same trivial (q r hr'))
  have z1:(1:Nat)<=sizeLine:=few (by omega)
  have z2:(2:Nat)<=sizeLine:=few (by omega)
  cases st with
  | lose=>exact ⟨_,rfl,t,_,_,_,rfl,rfl,ht,rfl,_,rfl,rfl,_,rfl,iteY rfl (iteT ⟨Nat.zero_le _,go⟩)⟩
  | skip m=>exact ⟨_,rfl,t,_,_,_,rfl,rfl,ht,rfl,_,rfl,rfl,_,rfl,iteK (by decide +kernel) ⟨_,rfl,rfl,_,rfl,iteY rfl ⟨Nat.zero_le _,go⟩⟩⟩
  | turn z=>exact ⟨_,rfl,t,_,_,_,rfl,rfl,ht,rfl,_,rfl,rfl,_,rfl,iteK (by decide +kernel) ⟨_,rfl,rfl,_,rfl,iteK (by decide +kernel) ⟨_,rfl,rfl,_,rfl,iteY rfl (iteT ⟨_,rfl,t,_,_,_,rfl,rfl,ht,rfl,z1,go⟩)⟩⟩⟩
  | add z=>exact ⟨_,rfl,t,_,_,_,rfl,rfl,ht,rfl,_,rfl,rfl,_,rfl,iteK (by decide +kernel) ⟨_,rfl,rfl,_,rfl,iteK (by decide +kernel) ⟨_,rfl,rfl,_,rfl,iteK (by decide +kernel) ⟨_,rfl,rfl,_,rfl,iteY rfl ⟨_,rfl,t,_,_,_,rfl,rfl,ht,rfl,z1,go⟩⟩⟩⟩⟩
  | twice=>
   cases last with
   | none=>exact absurd hf Bool.false_ne_true
   | some l=>exact ⟨_,rfl,t,_,_,_,rfl,rfl,ht,rfl,_,rfl,rfl,_,rfl,iteK (by decide +kernel) ⟨_,rfl,rfl,_,rfl,iteK (by decide +kernel) ⟨_,rfl,rfl,_,rfl,iteK (by decide +kernel) ⟨_,rfl,rfl,_,rfl,iteK (by decide +kernel) ⟨_,rfl,rfl,_,rfl,iteY rfl ⟨_,rfl,z1,go⟩⟩⟩⟩⟩⟩
  | swap=>
   have hd:d+1 < es.length:=of_decide_eq_true (Bool.and_eq_true_iff.mp hf).1
   have e1:((d:Nat):Int)+1=((d+1:Nat):Int):=by omega
   exact ⟨_,rfl,t,_,_,_,rfl,rfl,ht,rfl,_,rfl,rfl,_,rfl,iteK (by decide +kernel) ⟨_,rfl,rfl,_,rfl,iteK (by decide +kernel) ⟨_,rfl,rfl,_,rfl,iteK (by decide +kernel) ⟨_,rfl,rfl,_,rfl,iteK (by decide +kernel) ⟨_,rfl,rfl,_,rfl,iteK (by decide +kernel) ⟨_,rfl,rfl,_,rfl,iteY rfl
    ⟨_,rfl,_,rfl,_,_,rfl,rfl,p,_,_,_,rfl,rfl,hp,(by rw [e1];exact at_w hd),_,rfl,_,rfl,p,_,_,_,rfl,rfl,hp,at_w (by omega),z2,go⟩⟩⟩⟩⟩⟩⟩
  | keep=>
   have hd:d < es.length:=of_decide_eq_true hf
   exact ⟨_,rfl,t,_,_,_,rfl,rfl,ht,rfl,_,rfl,rfl,_,rfl,iteK (by decide +kernel) ⟨_,rfl,rfl,_,rfl,iteK (by decide +kernel) ⟨_,rfl,rfl,_,rfl,iteK (by decide +kernel) ⟨_,rfl,rfl,_,rfl,iteK (by decide +kernel) ⟨_,rfl,rfl,_,rfl,iteK (by decide +kernel) ⟨_,rfl,rfl,_,rfl,iteK (by decide +kernel)
    ⟨_,rfl,_,rfl,p,_,_,_,rfl,rfl,hp,at_w hd,z1,go⟩⟩⟩⟩⟩⟩⟩
def AfterTo (H:Hp) (Q:VK) (d:Nat) (ws:List Str):Prop:=∀ t r,H t=none->H r=none->r ≠ t->Q (.ref r) (upd (upd H t (.tup (ws.map V.str))) r (.tup [.int (d:Nat),.ref t]))
def spAfter (K:PySem.W.Frag) (C:Addr):Sp:=fun vs H Q E=>∃ (p t:Addr) (es:List Str) (d:Nat) (last:Option Str) (st:Sk),vs=[.ref p,.int (d:Nat),optS last,.ref t]/\SqT K H p (es.map V.str)/\SqT K H t (stepV st)/\okS st ∧
 match after es d last st with
 | some (d',ws)=>AfterTo H Q d' ws
 | none=>E (.ref C) none H
theorem scAfter:FnScope ["elder","done","last","step"] ["elder","done","last","step"] (defScope sAfter):=⟨rfl,rfl,rfl,by decide +kernel,rfl,by decide +kernel,by decide +kernel⟩
theorem free_ne {H:Hp} {p r:Addr} {o:HO} (h:upd H p o r=none):r ≠ p/\H r=none:=by
 have n:r ≠ p:=fun e=>by rw [e,upd_same] at h;cases h
 exact ⟨n,by rw [upd_ne n] at h;exact h⟩
theorem rst_two {H H':Hp} {Q:Hp->Prop} {t r:Addr} {o1 o2:HO} (S:Same H H') (ht:H' t=none) (hr:upd H' t o1 r=none) (n1:newO o1) (n2:newO o2) (q:Q (upd (upd H t o1) r o2)):Rst H (upd (upd H' t o1) r o2) Q:=by
 have ht0:H t=none:=S.free ht
 obtain ⟨n,hr1⟩:=free_ne hr
 have s1:Same (upd H t o1) (upd H' t o1):=fun a o e=>by
  by_cases ha:a=t
  ·subst ha;rw [upd_same] at e ⊢;exact e
  ·rw [upd_ne ha] at e ⊢;exact S a o e
 have hr0:upd H t o1 r=none:=by rw [upd_ne n];exact S.free hr1
 exact Rst.more (same_upd ht0) (fun a o e=>by
  by_cases ha:a=t
  ·subst ha;rw [upd_same] at e;cases e;exact .inr n1
  ·rw [upd_ne ha] at e;exact .inl e) (Rst.one (s1.trans (same_upd hr)) hr0 upd_same n2 q)
theorem ok_after {f gF gS gD gW C:Addr} {fd dF dS dD dW:FuncData} (F:Fun K "step_after" "step_after" sAfter f fd) (DF:Dfn K mg "step_fits" sFits gF dF ["elder","done","last","step"]) (DS:Dfn K mg "skip_fits" sSkF gS dS ["elder","done","many"]) (DD:Dfn K mg "words_done" sWd gD dD ["step"]) (DW:Dfn K mg "words_written" sWw gW dW ["elder","done","last","step"])
  (mC:mg "NoSlips" = some (.ref C)) (xC:VEx K C) (mlen:mg "len" = none):FnOk P w K mg base (CXv P w) 3 f fd ["elder","done","last","step"] (spAfter K C):=by
 have GF:FnOk P w K mg base CX0 2 gF dF ["elder","done","last","step"] (spFits K):=ok_fits DF.fn DS mlen
 have GD:FnOk P w K mg base CX0 2 gD dD ["step"] (spWd K):=(ok_wd DD.fn).mono (by decide)
 have GW:FnOk P w K mg base CX0 2 gW dW ["elder","done","last","step"] (spWw K):=(ok_ww DW.fn).mono (by decide)
 refine Fun.okXR F scAfter (fun vs H Q E h=>?_) (fun cdv A outer s H vs Q Q2 E E2 hr h hq hE=>?_)
 ·obtain ⟨p,t,es,d,last,st,rfl,_⟩:=h
  rfl
 ·obtain ⟨p,t,es,d,last,st,rfl,hp,ht,hok,q⟩:=h
  refine ⟨_,pss_cons (ps_if (pt_not (pt_val (pe_call GF hr (by rfl) DF.at_ DF.fn.kp DF.bn .nil pass0 (pa_cons (pv 0) (pa_cons (pv 1) (pa_cons (pv 2) (pa_cons (pv 3) pa_nil))))))) (pss_one (ps_raise rfl (by rfl) mC xC lands_def pe_str)) pss_nil)
   (pss_one (ps_ret (pe_tup (pa_cons (pe_op op_add (pv 1) (pe_call GD hr (by rfl) DD.at_ DD.fn.kp DD.bn .nil pass0 (pa_cons (pv 3) pa_nil))) (pa_cons (pe_call GW hr (by rfl) DW.at_ DW.fn.kp DW.bn .nil pass0 (pa_cons (pv 0) (pa_cons (pv 1) (pa_cons (pv 2) (pa_cons (pv 3) pa_nil))))) pa_nil))))),?_⟩
  refine ⟨_,rfl,_,rfl,_,rfl,_,rfl,p,t,es,d,last,st,rfl,hp,ht,hok,_,rfl,?_⟩
  unfold after at q
  cases hf:fitsB es d last st with
  | false=>
   rw [hf,if_neg Bool.false_ne_true] at q
   exact iteT ⟨few (by show 1<=_;omega),hE _ _ _ (Rst.same (Same.refl H) q)⟩
  | true=>
   rw [hf,if_pos rfl] at q
   refine iteF ⟨_,rfl,_,rfl,t,st,rfl,ht,_,_,rfl,rfl,?_⟩
   refine ⟨_,rfl,_,rfl,_,rfl,_,rfl,p,t,es,d,last,st,rfl,hp,ht,hf,fun r hr1=>⟨few (by show 2<=_;omega),fun r2 hr2=>?_⟩⟩
   obtain ⟨n,hH⟩:=free_ne hr2
   have e:((d:Nat):Int)+((wd st:Nat):Int)=((d+wd st:Nat):Int):=by omega
   show Q2 (.ref r2) (upd (upd H r (.tup ((ww es d last st).map V.str))) r2 (.tup [.int (((d:Nat):Int)+((wd st:Nat):Int)),.ref r]))
   rw [e]
   exact hq _ _ (rst_two (Same.refl H) hr1 hr2 trivial trivial (q r r2 hr1 hH n))
theorem upd_mono {H H':Hp} {t:Addr} {o:HO} (S:Same H H'):Same (upd H t o) (upd H' t o):=fun a u e=>by
 by_cases ha:a=t
 ·subst ha;rw [upd_same] at e ⊢;exact e
 ·rw [upd_ne ha] at e ⊢;exact S a u e
theorem new_upd {H:Hp} {t:Addr} {o:HO} (n:newO o):∀ a u,upd H t o a=some u->H a=some u\/newO u:=fun a u e=>by
 by_cases ha:a=t
 ·subst ha;rw [upd_same] at e;cases e;exact .inr n
 ·rw [upd_ne ha] at e;exact .inl e
theorem rst_three {H H':Hp} {Q:Hp->Prop} {t p r:Addr} {o1 o2 o3:HO} (S:Same H H') (ht:H' t=none) (hp:upd H' t o1 p=none) (hr:upd (upd H' t o1) p o2 r=none) (n1:newO o1) (n2:newO o2) (n3:newO o3) (q:Q (upd (upd (upd H t o1) p o2) r o3)):Rst H (upd (upd (upd H' t o1) p o2) r o3) Q:=
 Rst.more (same_upd (S.free ht)) (new_upd n1) (rst_two (upd_mono S) hp hr n2 n3 q)
def nV (n:Nat):V:=.int (n:Nat)
def spWalk (K:PySem.W.Frag) (C:Addr):Sp:=fun vs H Q E=>∃ (p q:Addr) (es:List Str) (ts:List Addr) (sts:List Sk),vs=[.ref p,.ref q]/\SqT K H p (es.map V.str)/\SqT K H q (ts.map V.ref)/\StepsAt K H ts sts/\sts.length<=1000 ∧
 match made es sts with
 | some (cp,pl)=>∀ a b r,H a=none->H b=none->H r=none->b ≠ a->r ≠ a->r ≠ b->Q (.ref r) (upd (upd (upd H a (.tup (cp.map V.str))) b (.tup (pl.map nV))) r (.tup [.ref a,.ref b]))
 | none=>E (.ref C) none H
theorem scWalk:FnScope ["elder","steps","copy","places","done","step","last","after"] ["elder","steps"] (defScope sWalk):=⟨rfl,rfl,rfl,by decide +kernel,rfl,by decide +kernel,by decide +kernel⟩
theorem ok_walk {f gA C:Addr} {fd dA:FuncData} (F:Fun K "steps_walked" "steps_walked" sWalk f fd) (DA:Dfn K mg "step_after" sAfter gA dA ["elder","done","last","step"]) (GA:FnOk P w K mg base (CXv P w) 3 gA dA ["elder","done","last","step"] (spAfter K C))
  (mC:mg "NoSlips" = some (.ref C)) (xC:VEx K C) (mlen:mg "len" = none) (mtup:mg "tuple" = none) {tw:Tok} (mW:mg "MOST_WORDS" = some (.int 40 tw)):FnOk P w K mg base (CXv P w) 4 f fd ["elder","steps"] (spWalk K C):=by
 refine Fun.okXR F scWalk (fun vs H Q E h=>?_) (fun cdv A outer s H vs Q Q2 E E2 hr h hq hE=>?_)
 ·obtain ⟨p,q,es,ts,sts,rfl,_⟩:=h
  rfl
 ·obtain ⟨p,q0,es,ts,sts,rfl,hp,hts,hst,hsl,q⟩:=h
  refine ⟨_,PSs.fly (pss_cons (ps_set (i:=2) scWalk.nd rfl (Or.inl rfl) (pe_lst pa_nil))
   (pss_cons (ps_set (i:=3) scWalk.nd rfl (Or.inl rfl) (pe_lst pa_nil))
   (pss_cons (ps_set (i:=4) scWalk.nd rfl (Or.inl rfl) pe_int)
   (pss_cons (ps_for passF rfl (pi_tup (pv 1)) (pg_name (i:=5) scWalk.nd rfl (Or.inl rfl))
    (pss_cons (ps_mid (ps_set (i:=6) scWalk.nd rfl (Or.inl rfl) (pe_ifExp (pt_cmpR op_gt (pe_callB call_len_seq (by rfl) mlen PySem.boot_len (pa_cons (pv 2) pa_nil)) pe_int (nomark _)) (pe_ix ix_list (pv 2) (pe_un un_neg pe_int) (fun _ _=>rfl)) pe_non)))
    (pss_cons (ps_set (i:=7) scWalk.nd rfl (Or.inl rfl) (pe_call GA hr (by rfl) DA.at_ DA.fn.kp DA.bn .nil passesF (pa_cons (pv 0) (pa_cons (pv 4) (pa_cons (pv 6) (pa_cons (pv 5) pa_nil))))))
    (pss_cons (ps_expr (pe_bm PySem.F.plainAttrs_list PySem.F.slot_list_append PySem.F.type_list_append mt_append (pv 3) (pa_cons (pv 4) pa_nil)))
    (pss_cons (ps_set (i:=4) scWalk.nd rfl (Or.inl rfl) (pe_ix ix_tup (pv 7) pe_int (fun _ _=>rfl)))
    (pss_one (ps_expr (pe_bm PySem.F.plainAttrs_list PySem.F.slot_list_extend PySem.F.type_list_extend mt_extendT (pv 2) (pa_cons (pe_ix ix_tup (pv 7) pe_int (fun _ _=>rfl)) pa_nil)))))))))
   (pss_cons (ps_if (pt_cmpR op_lt (pv 4) (pe_callB call_len_seq (by rfl) mlen PySem.boot_len (pa_cons (pv 0) pa_nil)) (nomark _)) (pss_one (ps_raise rfl (by rfl) mC xC landsF pe_str)) pss_nil)
   (pss_cons (ps_if (pt_cmpR op_gt (pe_callB call_len_seq (by rfl) mlen PySem.boot_len (pa_cons (pv 2) pa_nil)) (pe_glob (v:=.int 40) (by rfl) mW ⟨_,rfl⟩) (nomark _)) (pss_one (ps_raise rfl (by rfl) mC xC landsF pe_str)) pss_nil)
   (pss_one (ps_ret (pe_tup (pa_cons (pe_callTy call_tuple_of (by rfl) mtup boot_tuple (pa_cons (pv 2) pa_nil)) (pa_cons (pe_callTy call_tuple_of (by rfl) mtup boot_tuple (pa_cons (pv 3) pa_nil)) pa_nil))))))))))),?_⟩
  have z1:(1:Nat)<=sizeLine:=few (by omega)
  refine ⟨Nat.zero_le _,fun l1 hl1=>?_⟩
  refine ⟨Nat.zero_le _,fun l2 hl2=>?_⟩
  obtain ⟨n21,hl2H⟩:=free_ne hl2
  have S0:Same H (upd (upd H l1 (.lst [])) l2 (.lst [])):=(same_upd hl1).trans (same_upd hl2)
  have nn:made es sts=none->∀ H',Same H H'->E2 (.ref C) none H':=fun e H' S=>by
   rw [e] at q
   exact hE _ _ _ (Rst.same S q)
  refine ⟨_,rfl,q0,rfl,⟨_,sameT S0 hts⟩,for_tup (K:=K) (a:=q0) (xs:=ts.map V.ref) (fun i σ H2=>∃ (d:Nat) (cp:List Str) (pl:List Nat) (v5 v6 v7:Option V),σ=[some (.ref p),some (.ref q0),some (.ref l1),some (.ref l2),some (.int (d:Nat)),v5,v6,v7] ∧
   H2 l1=some (.lst (cp.map V.str))/\H2 l2=some (.lst (pl.map nV))/\Same H H2/\walk es (sts.take i) (0,[],[])=some (d,cp,pl)/\cp.length<=2 * i/\pl.length=i)
   ⟨0,[],[],none,none,none,rfl,by rw [upd_ne (Ne.symm n21)];exact upd_same,upd_same,S0,rfl,Nat.le_refl _,rfl⟩ (fun i σ H2 _ ⟨_,_,_,_,_,_,_,_,_,S,_⟩=>sameT S hts) ?_ ?_⟩
  ·rintro i y σ H2 hi ⟨d,cp,pl,v5,v6,v7,rfl,h1,h2,S,hw,hcl,hpl⟩
   obtain ⟨t,hti,rfl⟩:=ref_at hi
   have hil:i < ts.length:=(List.getElem?_eq_some_iff.mp hti).1
   have hil':i < sts.length:=by rw [<-hst.len];exact hil
   have hsi:sts[i]?=some sts[i]:=List.getElem?_eq_getElem hil'
   generalize hgs:sts[i]=st at hsi
   obtain ⟨hT,hO⟩:=hst.item i t st hti hsi
   have hT2:=sameT S hT
   have wt:=walk_turn hsi hw
   refine ⟨fun σ' H'=>σ'=[some (.ref p),some (.ref q0),some (.ref l1),some (.ref l2),some (.int (d:Nat)),some (.ref t),some (optS cp.getLast?),v7]/\H'=H2,?_,?_⟩
   ·refine ⟨_,rfl,l1,_,rfl,.inl (SqL.of h1),_,_,rfl,rfl,_,rfl,?_⟩
    refine ite2 (fun h=>?_) (fun h=>?_)
    ·have h0:=of_decide_eq_true h
     rw [List.length_map] at h0
     obtain ⟨l,el,al⟩:=last_at (cp:=cp) (by omega)
     refine ⟨_,rfl,_,rfl,l1,_,_,_,rfl,rfl,SqL.of h1,al,?_,rfl⟩
     rw [el];rfl
    ·have h0:¬ ((0:Int) < ((cp.map V.str).length:Int)):=fun c=>h (decide_eq_true c)
     rw [List.length_map] at h0
     have e0:cp=[]:=List.eq_nil_of_length_eq_zero (by omega)
     subst e0
     exact ⟨rfl,rfl⟩
   ·rintro σ' H' ⟨rfl,rfl⟩
    refine ⟨_,rfl,_,rfl,_,rfl,_,rfl,p,t,es,d,cp.getLast?,st,rfl,sameT S hp,hT2,hO,?_⟩
    cases ha:after es d cp.getLast? st with
    | none=>
     rw [ha] at wt
     exact nn (walk_stop wt) _ S
    | some y=>
     obtain ⟨d',ws⟩:=y
     rw [ha] at wt
     have hwl:ws.length<=2:=after_len ha
     intro t1 r1 ht1 hr1 hne
     have f1:upd H' t1 (.tup (ws.map V.str)) r1=none:=by rw [upd_ne hne];exact hr1
     have S1:=(same_upd (o:=.tup (ws.map V.str)) ht1).trans (same_upd (o:=.tup [.int (d':Nat),.ref t1]) f1)
     generalize hH3:upd (upd H' t1 (.tup (ws.map V.str))) r1 (.tup [.int (d':Nat),.ref t1])=H3 at S1
     have g1:H3 r1=some (.tup [.int (d':Nat),.ref t1]):=by rw [<-hH3];exact upd_same
     have g2:H3 t1=some (.tup (ws.map V.str)):=by rw [<-hH3,upd_ne (Ne.symm hne)];exact upd_same
     have k1:=S1 _ _ h1
     have k2:=S1 _ _ h2
     have n12:l1 ≠ l2:=Ne.symm n21
     have nr2:r1 ≠ l2:=Ne.symm (ne_of_none h2 hr1)
     have nt2:t1 ≠ l2:=Ne.symm (ne_of_none h2 ht1)
     have nt1:t1 ≠ l1:=Ne.symm (ne_of_none h1 ht1)
     refine ⟨_,rfl,.inl ⟨rfl,_,SqL.of k2⟩,_,rfl,l2,_,_,rfl,rfl,k2,(by rw [List.length_map];exact fewer (by omega)),?_⟩
     refine ⟨_,rfl,r1,_,_,_,rfl,rfl,SqT.of (by rw [upd_ne nr2];exact g1),rfl,?_⟩
     have k1':upd H3 l2 (.lst (pl.map nV++[.int (d:Nat)])) l1=some (.lst (cp.map V.str)):=by rw [upd_ne n12];exact k1
     refine ⟨_,rfl,.inl ⟨rfl,_,SqL.of k1'⟩,_,rfl,r1,_,_,_,rfl,rfl,SqT.of (by rw [upd_ne nr2];exact g1),rfl,l1,t1,_,_,rfl,rfl,k1',SqT.of (by rw [upd_ne nt2];exact g2),(by rw [List.length_map,List.length_map];exact few (by omega)),?_⟩
     refine ⟨d',cp++ws,pl++[d],_,_,_,rfl,?_,?_,?_,wt,?_,?_⟩
     ·rw [upd_same,List.map_append]
     ·rw [upd_ne (Ne.symm n12),upd_same,List.map_append];rfl
     ·exact same_to (same_to (S.trans S1) hl2H) hl1
     ·rw [List.length_append];omega
     ·rw [List.length_append,hpl];rfl
  ·rintro σ H2 ⟨d,cp,pl,v5,v6,v7,rfl,h1,h2,S,hw,hcl,hpl⟩
   rw [List.length_map,hst.len,List.take_length] at hw
   rw [List.length_map] at hcl
   have hp2:=sameT S hp
   have hlen:(es.map V.str).length=es.length:=List.length_map ..
   refine ⟨_,rfl,_,rfl,p,_,rfl,.inr hp2,_,_,rfl,rfl,_,rfl,?_⟩
   rw [hlen]
   refine ite2 (fun h=>⟨z1,nn ?_ _ S⟩) (fun h=>?_)
   ·have h0:=of_decide_eq_true h
    unfold made
    rw [hw]
    show (if d < es.length\/40 < cp.length then none else some (cp,pl))=none
    rw [if_pos (.inl (by omega))]
   have hd:¬ (((d:Nat):Int) < (es.length:Int)):=fun c=>h (decide_eq_true c)
   refine ⟨_,rfl,l1,_,rfl,.inl (SqL.of h1),_,_,rfl,rfl,_,rfl,?_⟩
   rw [List.length_map]
   refine ite2 (fun h4=>⟨z1,nn ?_ _ S⟩) (fun h4=>?_)
   ·have h0:=of_decide_eq_true h4
    unfold made
    rw [hw]
    show (if d < es.length\/40 < cp.length then none else some (cp,pl))=none
    rw [if_pos (.inr (by omega))]
   have hc:¬ ((40:Int) < (cp.length:Int)):=fun c=>h4 (decide_eq_true c)
   have em:made es sts=some (cp,pl):=by
    unfold made
    rw [hw]
    show (if d < es.length\/40 < cp.length then none else some (cp,pl))=_
    rw [if_neg (by omega)]
   rw [em] at q
   refine ⟨_,rfl,l1,_,rfl,.inl ⟨SqL.of h1,fun a ha=>?_⟩⟩
   refine ⟨_,rfl,l2,_,rfl,.inl ⟨SqL.of (same_upd ha _ _ h2),fun b hb=>⟨few (by show 2<=_;omega),fun r hr'=>?_⟩⟩⟩
   obtain ⟨nb,hb1⟩:=free_ne hb
   obtain ⟨nr,hr1⟩:=free_ne hr'
   obtain ⟨nr2,hr2⟩:=free_ne hr1
   exact hq _ _ (rst_three S ha hb hr' trivial trivial trivial (q a b r (S.free ha) (S.free hb1) (S.free hr2) nb nr2 nr))
def spCopy (K:PySem.W.Frag) (C:Addr):Sp:=fun vs H Q E=>∃ (p q:Addr) (es:List Str) (ts:List Addr) (sts:List Sk),vs=[.ref p,.ref q]/\SqT K H p (es.map V.str)/\SqT K H q (ts.map V.ref)/\StepsAt K H ts sts/\sts.length<=1000 ∧
 match made es sts with
 | some (cp,pl)=>∀ a,H a=none->Q (.ref a) (upd H a (.tup (cp.map V.str)))
 | none=>E (.ref C) none H
theorem scCopy:FnScope ["elder","steps"] ["elder","steps"] (defScope sCopy):=⟨rfl,rfl,rfl,by decide +kernel,rfl,by decide +kernel,by decide +kernel⟩
theorem ok_copy {f gW C:Addr} {fd dW:FuncData} (F:Fun K "copy_made" "copy_made" sCopy f fd) (DW:Dfn K mg "steps_walked" sWalk gW dW ["elder","steps"]) (GW:FnOk P w K mg base (CXv P w) 4 gW dW ["elder","steps"] (spWalk K C)):FnOk P w K mg base (CXv P w) 5 f fd ["elder","steps"] (spCopy K C):=by
 refine Fun.okXR F scCopy (fun vs H Q E h=>?_) (fun cdv A outer s H vs Q Q2 E E2 hr h hq hE=>?_)
 ·obtain ⟨p,q,es,ts,sts,rfl,_⟩:=h
  rfl
 ·obtain ⟨p,q0,es,ts,sts,rfl,hp,hts,hst,hsl,q⟩:=h
  refine ⟨_,pss_one (ps_ret (pe_ix ix_tup (pe_call GW hr (by rfl) DW.at_ DW.fn.kp DW.bn .nil passes_def (pa_cons (pv 0) (pa_cons (pv 1) pa_nil))) pe_int (fun _ _=>rfl))),?_⟩
  refine ⟨_,rfl,_,rfl,p,q0,es,ts,sts,rfl,hp,hts,hst,hsl,?_⟩
  cases hm:made es sts with
  | none=>
   rw [hm] at q
   exact hE _ _ _ (Rst.same (Same.refl H) q)
  | some y=>
   obtain ⟨cp,pl⟩:=y
   rw [hm] at q
   intro a b r ha hb hr' n1 n2 n3
   have s1:=same_upd (o:=.tup (cp.map V.str)) ha
   have s2:=same_upd (o:=.tup (pl.map nV)) (show upd H a (.tup (cp.map V.str)) b=none by rw [upd_ne n1];exact hb)
   have s3:=same_upd (o:=.tup [.ref a,.ref b]) (show upd (upd H a (.tup (cp.map V.str))) b (.tup (pl.map nV)) r=none by rw [upd_ne n3,upd_ne n2];exact hr')
   refine ⟨r,_,_,_,rfl,rfl,SqT.of upd_same,rfl,hq _ _ (Rst.one ((s1.trans s2).trans s3) ha (s3 _ _ (s2 _ _ upd_same)) trivial (q a ha))⟩
structure Places (w:World) (K:PySem.W.Frag) (a:Addr) (es:Array DictEntry) (n:Nat):Prop where
 at_:K.lookup a=some ⟨.type "dict",none,.dict es n,#[]⟩
 keys:PySem.W.KeysLit w.params es.toList
 p1:∃ t,PySem.W.nsIn K a "turn" = some (some (.int 1 t))
 p2:∃ t,PySem.W.nsIn K a "lose" = some (some (.int 2 t))
 p3:∃ t,PySem.W.nsIn K a "add" = some (some (.int 3 t))
 p4:∃ t,PySem.W.nsIn K a "twice" = some (some (.int 4 t))
 p5:∃ t,PySem.W.nsIn K a "swap" = some (some (.int 5 t))
 p6:∃ t,PySem.W.nsIn K a "skip" = some (some (.int 6 t))
def gI (pr:List Int) (i:Nat):Int:=(pr[i]?).getD 0
theorem at_p {pr:List Int} {i:Nat} (h:i < pr.length):atI (pr.map V.int) (i:Int)=some (.int (gI pr i)):=atI_nat (by rw [List.getElem?_map,List.getElem?_eq_getElem h];unfold gI;rw [List.getElem?_eq_getElem h];rfl)
def price (es:List Str) (d:Nat) (pr:List Int):Sk->Int
 | .keep=>0
 | .turn z=>if alikeB (gt es d).cps.toList z.cps.toList=true then gI pr 0 else gI pr 1
 | .lose=>gI pr 2
 | .add _=>gI pr 3
 | .twice=>gI pr 4
 | .swap=>gI pr 5
 | .skip _=>gI pr 6
def turnOk (es:List Str) (d:Nat):Sk->Prop
 | .turn _=>d < es.length
 | _=>True
def spPrice (K:PySem.W.Frag):Sp:=fun vs H Q _=>∃ (p t q:Addr) (es:List Str) (d:Nat) (st:Sk) (pr:List Int),vs=[.ref p,.int (d:Nat),.ref t,.ref q]/\SqT K H p (es.map V.str)/\(∀ z ∈ es,Good z)/\SqT K H t (stepV st)/\okS st/\turnOk es d st/\SqT K H q (pr.map V.int)/\pr.length=7/\Q (.int (price es d pr st)) H
theorem scPrice:FnScope ["elder","done","step","prices","kind"] ["elder","done","step","prices"] (defScope sPrice):=⟨rfl,rfl,rfl,by decide +kernel,rfl,by decide +kernel,by decide +kernel⟩
theorem ok_price {f gL aD:Addr} {fd dL:FuncData} {esD:Array DictEntry} {nD:Nat} (F:Fun K "step_price" "step_price" sPrice f fd) (DL:Dfn K mg "looks_alike" sLooks gL dL ["one","two"]) (GL:FnOk P w K mg base CX0 1 gL dL ["one","two"] spAlike)
  {tl:Tok} (mL:mg "LIKE" = some (.int 0 tl)) (mP:mg "PRICE_PLACES" = some (.ref aD)) (PL:Places w K aD esD nD):FnOk P w K mg base CX0 2 f fd ["elder","done","step","prices"] (spPrice K):=by
 refine Fun.okR F scPrice (fun vs H Q E h=>?_) (fun cdv A outer s H vs Q Q2 E hr h hq=>?_)
 ·obtain ⟨p,t,q,es,d,st,pr,rfl,_⟩:=h
  rfl
 ·obtain ⟨p,t,r,es,d,st,pr,rfl,hp,hg,ht,hok,hto,hpr,hl7,q⟩:=h
  refine ⟨_,pss_cons (ps_set (i:=4) scPrice.nd rfl (Or.inl rfl) (pe_ix ix_tup (pv 2) pe_int (fun _ _=>rfl)))
   (pss_cons (ps_if (pt_cmpR op_eq (pv 4) pe_str (nomark _)) (pss_one (ps_ret pe_int)) pss_nil)
   (pss_cons (ps_if (pw_and (pt_cmpR op_eq (pv 4) pe_str (nomark _)) (pw_and1 (pt_val (pe_call GL hr (by rfl) DL.at_ DL.fn.kp DL.bn .nil pass0 (pa_cons (pe_ix ix_tup (pv 0) (pv 1) (fun _ _=>rfl)) (pa_cons (pe_ix ix_tup (pv 2) pe_int (fun _ _=>rfl)) pa_nil)))))).pt
    (pss_one (ps_ret (pe_ix ix_tup (pv 3) (pe_glob (v:=.int 0) (by rfl) mL ⟨_,rfl⟩) (fun _ _=>rfl)))) pss_nil)
   (pss_one (ps_ret (pe_ix ix_tup (pv 3) (pe_ix (ix_dictM rfl PL.at_ PL.keys) (pe_glob (v:=.ref aD) (by rfl) mP rfl) (pv 4) (fun _ _=>rfl)) (fun _ _=>rfl)))))),?_⟩
  have go:∀ i,price es d pr st=i->Q2 (.int i) H:=fun i e=>hq _ _ (Rst.same (Same.refl H) (by rw [<-e];exact q))
  obtain ⟨t1,P1⟩:=PL.p1
  obtain ⟨t2,P2⟩:=PL.p2
  obtain ⟨t3,P3⟩:=PL.p3
  obtain ⟨t4,P4⟩:=PL.p4
  obtain ⟨t5,P5⟩:=PL.p5
  obtain ⟨t6,P6⟩:=PL.p6
  cases st with
  | keep=>exact ⟨_,rfl,t,_,_,_,rfl,rfl,ht,rfl,_,rfl,rfl,_,rfl,iteY rfl (go _ rfl)⟩
  | turn z=>
   have hd:d < es.length:=hto
   refine ⟨_,rfl,t,_,_,_,rfl,rfl,ht,rfl,?_⟩
   refine ⟨_,rfl,rfl,_,rfl,iteK (by decide +kernel) ?_⟩
   refine ⟨_,rfl,rfl,_,rfl,iteY rfl ?_⟩
   refine ⟨_,rfl,_,rfl,p,_,_,_,rfl,rfl,hp,at_w hd,_,rfl,t,_,_,_,rfl,rfl,ht,rfl,_,_,rfl,(hg _ (gt_mem hd)).small,Good.small hok,_,rfl,?_⟩
   cases hb:alikeB (gt es d).cps.toList z.cps.toList with
   | true=>exact iteT ⟨_,rfl,r,_,_,_,rfl,rfl,hpr,at_p (i:=0) (by omega),go _ (by show (if alikeB (gt es d).cps.toList z.cps.toList=true then _ else _)=_;rw [hb];rfl)⟩
   | false=>exact iteF ⟨_,rfl,_,rfl,_,.int 1,_,rfl,rfl,P1,⟨_,rfl⟩,r,_,_,_,rfl,rfl,hpr,at_p (i:=1) (by omega),go _ (by show (if alikeB (gt es d).cps.toList z.cps.toList=true then _ else _)=_;rw [hb];rfl)⟩
  | lose=>
   refine ⟨_,rfl,t,_,_,_,rfl,rfl,ht,rfl,_,rfl,rfl,_,rfl,iteK (by decide +kernel) ⟨_,rfl,rfl,_,rfl,iteK (by decide +kernel) (iteF ?_)⟩⟩
   exact ⟨_,rfl,_,rfl,_,.int 2,_,rfl,rfl,P2,⟨_,rfl⟩,r,_,_,_,rfl,rfl,hpr,at_p (i:=2) (by omega),go _ rfl⟩
  | add z=>
   refine ⟨_,rfl,t,_,_,_,rfl,rfl,ht,rfl,_,rfl,rfl,_,rfl,iteK (by decide +kernel) ⟨_,rfl,rfl,_,rfl,iteK (by decide +kernel) (iteF ?_)⟩⟩
   exact ⟨_,rfl,_,rfl,_,.int 3,_,rfl,rfl,P3,⟨_,rfl⟩,r,_,_,_,rfl,rfl,hpr,at_p (i:=3) (by omega),go _ rfl⟩
  | twice=>
   refine ⟨_,rfl,t,_,_,_,rfl,rfl,ht,rfl,_,rfl,rfl,_,rfl,iteK (by decide +kernel) ⟨_,rfl,rfl,_,rfl,iteK (by decide +kernel) (iteF ?_)⟩⟩
   exact ⟨_,rfl,_,rfl,_,.int 4,_,rfl,rfl,P4,⟨_,rfl⟩,r,_,_,_,rfl,rfl,hpr,at_p (i:=4) (by omega),go _ rfl⟩
  | swap=>
   refine ⟨_,rfl,t,_,_,_,rfl,rfl,ht,rfl,_,rfl,rfl,_,rfl,iteK (by decide +kernel) ⟨_,rfl,rfl,_,rfl,iteK (by decide +kernel) (iteF ?_)⟩⟩
   exact ⟨_,rfl,_,rfl,_,.int 5,_,rfl,rfl,P5,⟨_,rfl⟩,r,_,_,_,rfl,rfl,hpr,at_p (i:=5) (by omega),go _ rfl⟩
  | skip m=>
   refine ⟨_,rfl,t,_,_,_,rfl,rfl,ht,rfl,_,rfl,rfl,_,rfl,iteK (by decide +kernel) ⟨_,rfl,rfl,_,rfl,iteK (by decide +kernel) (iteF ?_)⟩⟩
   exact ⟨_,rfl,_,rfl,_,.int 6,_,rfl,rfl,P6,⟨_,rfl⟩,r,_,_,_,rfl,rfl,hpr,at_p (i:=6) (by omega),go _ rfl⟩
def cost (es:List Str) (pr:List Int) (pl:List Nat) (sts:List Sk):Int:=((pl.zip sts).map fun x=>price es x.1 pr x.2).sum
theorem cost_snoc {es:List Str} {pr:List Int} {pl:List Nat} {sts:List Sk} {d:Nat} {st:Sk} (h:pl.length=sts.length):cost es pr (pl++[d]) (sts++[st])=cost es pr pl sts+price es d pr st:=by
 unfold cost
 rw [List.zip_append h,List.map_append,List.sum_append]
 simp
theorem walk_pre {es:List Str} {sts:List Sk} {x y:WS} (k:Nat) (h:walk es sts x=some y):∃ y',walk es (sts.take k) x=some y':=by
 have e:sts=sts.take k++sts.drop k:=(List.take_append_drop k sts).symm
 rw [e,walk_append] at h
 cases hw:walk es (sts.take k) x with
 | none=>rw [hw] at h;cases h
 | some y'=>exact ⟨y',rfl⟩
theorem after_turn {es:List Str} {d:Nat} {last:Option Str} {st:Sk} {y:Nat × List Str} (h:after es d last st=some y):turnOk es d st:=by
 unfold after at h
 split at h
 ·rename_i hf
  cases st with
  | turn z=>show d < es.length;exact of_decide_eq_true (Bool.and_eq_true_iff.mp hf).1
  | _=>trivial
 ·cases h
theorem walk_at {es:List Str} {sts:List Sk} {i:Nat} {st:Sk} {d:Nat} {cp:List Str} {pl:List Nat} {y:WS} (hs:walk es sts (0,[],[])=some y) (hi:sts[i]?=some st) (hw:walk es (sts.take i) (0,[],[])=some (d,cp,pl)) :
  ∃ d' ws,after es d cp.getLast? st=some (d',ws)/\walk es (sts.take (i+1)) (0,[],[])=some (d',cp++ws,pl++[d]):=by
 obtain ⟨y',hy⟩:=walk_pre (i+1) hs
 have wt:=walk_turn hi hw
 rw [hy] at wt
 cases ha:after es d cp.getLast? st with
 | none=>rw [ha] at wt;cases wt
 | some z=>
  rw [ha] at wt
  exact ⟨z.1,z.2,rfl,by rw [hy];exact wt⟩
theorem take_snoc {sts:List Sk} {i:Nat} {st:Sk} (hi:sts[i]?=some st):sts.take (i+1)=sts.take i++[st]:=by
 have hl:=(List.getElem?_eq_some_iff.mp hi).1
 rw [List.take_succ_eq_append_getElem hl,(List.getElem?_eq_some_iff.mp hi).2]
theorem pg_tupK {X:Cx} {es:List Expr} {k:Nat} {t:TGs} {n:Nat} {pos:Pos} (hK:X.K=K) (hc:X.calm=true) (h:PGs X es t)
  (hn:(assignEach es X.env).length=n:=by rfl) (hst:(assignEach es X.env).findIdx? (·.1)=none:=by rfl):PG X (.Tuple es k pos) (gTup K n t):=by
 subst hK
 exact pg_tup hc h hn hst
theorem pi_zipK {X:Cx} {es:List Expr} {x1:Nat} {tpos:Pos} {a b:Expr} {ta:TA} {p pos:Pos} (hK:X.K=K) (hg:Gl X "zip") (hm:X.mg "zip" = none) (ha:PA X [a,b] ta) (hs:starEach [a,b] X.env=[(false,eval a X.env),(false,eval b X.env)]:=by rfl) (hs2:starEach [b] X.env=[(false,eval b X.env)]:=by rfl) :
  PI X (.Tuple es x1 tpos) (.Call (.Name "zip" p) [a,b] [] pos) (iZip K ta):=by
 subst hK
 exact pi_zip hg hm ha hs hs2
def spCost (K:PySem.W.Frag) (C:Addr):Sp:=fun vs H Q E=>∃ (p q r:Addr) (es:List Str) (ts:List Addr) (sts:List Sk) (pr:List Int),vs=[.ref p,.ref q,.ref r]/\SqT K H p (es.map V.str)/\(∀ z ∈ es,Good z)/\SqT K H q (ts.map V.ref)/\StepsAt K H ts sts/\sts.length<=1000/\SqT K H r (pr.map V.int)/\pr.length=7 ∧
 match made es sts with
 | some (_,pl)=>Q (.int (cost es pr pl sts)) H
 | none=>E (.ref C) none H
theorem walk_made {es:List Str} {sts:List Sk} {cp:List Str} {pl:List Nat} (h:made es sts=some (cp,pl)):∃ d,walk es sts (0,[],[])=some (d,cp,pl):=by
 unfold made at h
 cases hw:walk es sts (0,[],[]) with
 | none=>rw [hw] at h;cases h
 | some x=>
  rw [hw,Option.bind_some] at h
  split at h
  ·cases h
  ·cases h
   exact ⟨x.1,rfl⟩
theorem walk_places {es:List Str} {sts:List Sk} {y:WS} (h:walk es sts (0,[],[])=some y):∀ i,i<=sts.length->∃ d cp,walk es (sts.take i) (0,[],[])=some (d,cp,y.2.2.take i)/\(y.2.2.take i).length=i:=by
 have main:∀ i,i<=sts.length->∃ d cp pl,walk es (sts.take i) (0,[],[])=some (d,cp,pl)/\pl.length=i:=fun i=>by
  induction i with
  | zero=>exact fun _=>⟨0,[],[],rfl,rfl⟩
  | succ i ih=>
   intro hi
   obtain ⟨d,cp,pl,hw,hl⟩:=ih (by omega)
   obtain ⟨d',ws,_,hw'⟩:=walk_at h (List.getElem?_eq_getElem (show i < sts.length by omega)) hw
   exact ⟨d',_,_,hw',by rw [List.length_append,hl];rfl⟩
 have grow:∀ (r:List Sk) (x z:WS),walk es r x=some z->∃ m,z.2.2=x.2.2++m:=fun r=>by
  induction r with
  | nil=>intro x z e;cases e;exact ⟨[],by simp⟩
  | cons st r ih=>
   intro x z e
   have e':(walk1 es x st).bind (walk es r)=some z:=e
   cases hw:walk1 es x st with
   | none=>rw [hw] at e';cases e'
   | some x'=>
    rw [hw,Option.bind_some] at e'
    obtain ⟨m,em⟩:=ih x' z e'
    unfold walk1 at hw
    cases ha:after es x.1 x.2.1.getLast? st with
    | none=>rw [ha] at hw;cases hw
    | some u=>
     rw [ha] at hw
     cases hw
     exact ⟨[x.1]++m,by rw [em];simp⟩
 intro i hi
 obtain ⟨d,cp,pl,hw,hl⟩:=main i hi
 have e:sts=sts.take i++sts.drop i:=(List.take_append_drop i sts).symm
 rw [e,walk_append,hw,Option.bind_some] at h
 obtain ⟨m,em⟩:=grow _ _ _ h
 have e2:y.2.2.take i=pl:=by rw [em];show (pl++m).take i=pl;rw [<-hl];simp
 exact ⟨d,cp,by rw [e2];exact hw,by rw [e2];exact hl⟩
theorem yes_ (σ:L2.St) (H:Hp) (k:Bool->Hp->Prop) (h:k true H):tYes σ H k:=h
theorem scCost:FnScope ["elder","steps","prices","places"] ["elder","steps","prices"] (defScope sCost):=⟨rfl,rfl,rfl,by decide +kernel,rfl,by decide +kernel,by decide +kernel⟩
theorem nd_dsep:(["done","step","elder","prices"]:List Str).Nodup:=by decide +kernel
theorem ok_cost {f gW gP C:Addr} {fd dW dP:FuncData} (F:Fun K "slips_price" "slips_price" sCost f fd) (DW:Dfn K mg "steps_walked" sWalk gW dW ["elder","steps"]) (GW:FnOk P w K mg base (CXv P w) 4 gW dW ["elder","steps"] (spWalk K C)) (DP:Dfn K mg "step_price" sPrice gP dP ["elder","done","step","prices"]) (GP:FnOk P w K mg base CX0 4 gP dP ["elder","done","step","prices"] (spPrice K))
  (msum:mg "sum" = none) (mzip:mg "zip" = none):FnOk P w K mg base (CXv P w) 5 f fd ["elder","steps","prices"] (spCost K C):=by
 refine Fun.okXR F scCost (fun vs H Q E h=>?_) (fun cdv A outer s H vs Q Q2 E E2 hr h hq hE=>?_)
 ·obtain ⟨p,q,r,es,ts,sts,pr,rfl,_⟩:=h
  rfl
 ·obtain ⟨p,q0,r,es,ts,sts,pr,rfl,hp,hg,hts,hst,hsl,hpr,hl7,q⟩:=h
  refine ⟨_,pss_cons (ps_set (i:=3) scCost.nd rfl (Or.inl rfl) (pe_ix ix_tup (pe_call GW hr (by rfl) DW.at_ DW.fn.kp DW.bn .nil passes_def (pa_cons (pv 0) (pa_cons (pv 1) pa_nil))) pe_int (fun _ _=>rfl)))
   (pss_one (ps_ret (pe_callB (call_sum rfl) (by rfl) msum boot_sum (pa_cons (pe_comp (Nc:=["done","step","elder","prices"]) (mp:=[none,none,some 0,some 2]) rfl (CompOk.of (by rfl)) (pi_zipK (K:=K) rfl (by rfl) mzip (pa_cons (pv 3) (pa_cons (pv 1) pa_nil)))
    (fun cl C s H fp=>⟨pg_tupK (K:=K) (n:=2) rfl rfl (pgs_cons (pg_name (i:=0) nd_dsep rfl (Or.inl rfl)) (pgs_cons (pg_name (i:=1) nd_dsep rfl (Or.inl rfl)) pgs_nil)),pts_nil,pe_call GP hr (by rfl) DP.at_ DP.fn.kp DP.bn .nil pass0 (pa_cons (pv 2) (pa_cons (pv 0) (pa_cons (pv 1) (pa_cons (pv 3) pa_nil))))⟩)) pa_nil)))),?_⟩
  refine ⟨_,rfl,_,rfl,p,q0,es,ts,sts,rfl,hp,hts,hst,hsl,?_⟩
  cases hm:made es sts with
  | none=>
   rw [hm] at q
   exact hE _ _ _ (Rst.same (Same.refl H) q)
  | some y=>
   obtain ⟨cp,pl⟩:=y
   rw [hm] at q
   obtain ⟨dE,hwk⟩:=walk_made hm
   intro a b r1 ha hb hr' n1 n2 n3
   have s1:=same_upd (o:=.tup (cp.map V.str)) ha
   have s2:=same_upd (o:=.tup (pl.map nV)) (show upd H a (.tup (cp.map V.str)) b=none by rw [upd_ne n1];exact hb)
   have s3:=same_upd (o:=.tup [.ref a,.ref b]) (show upd (upd H a (.tup (cp.map V.str))) b (.tup (pl.map nV)) r1=none by rw [upd_ne n3,upd_ne n2];exact hr')
   refine ⟨r1,_,_,_,rfl,rfl,SqT.of upd_same,rfl,?_⟩
   have hb':=s3 _ _ (upd_same (H:=upd H a (.tup (cp.map V.str))) (a:=b) (o:=.tup (pl.map nV)))
   have S0:=(s1.trans s2).trans s3
   generalize hH1:upd (upd (upd H a (.tup (cp.map V.str))) b (.tup (pl.map nV))) r1 (.tup [.ref a,.ref b])=H1 at S0 hb'
   have hpll:pl.length=sts.length:=by
    obtain ⟨_,_,_,hl⟩:=walk_places hwk sts.length (Nat.le_refl _)
    have hw0:=hwk
    obtain ⟨d',cp',hw',hl'⟩:=walk_places hwk sts.length (Nat.le_refl _)
    rw [List.take_length,hwk] at hw'
    have e:pl=pl.take sts.length:=by
     have:=(Prod.mk.inj (Prod.mk.inj (Option.some.inj hw')).2).2
     exact this
    rw [e];exact hl'
   refine ⟨_,rfl,_,rfl,b,q0,rfl,⟨_,SqT.of hb'⟩,⟨_,sameT S0 hts⟩,?_⟩
   refine ⟨fun i m σ acc H2=>i<=sts.length/\m=sts.length - i/\acc=(((pl.zip sts).take i).map fun x=>V.int (price es x.1 pr x.2))/\Same H1 H2/\∃ o1 o2,σ=[o1,o2,some (.ref p),some (.ref r)],⟨sts.length,Nat.zero_le _,rfl,rfl,Same.refl _,none,none,rfl⟩,?_⟩
   rintro i m σ acc H2 ⟨hi,rfl,rfl,S,o1,o2,rfl⟩
   have hzl:(pl.zip sts).length=sts.length:=by rw [List.length_zip,hpll];omega
   have hacc:(((pl.zip sts).take i).map fun x=>V.int (price es x.1 pr x.2)).length=i:=by rw [List.length_map,List.length_take,hzl];omega
   have hb2:=S _ _ hb'
   have hts2:=sameT (S0.trans S) hts
   by_cases hlt:i < sts.length
   ·refine .inr ⟨⟨_,_,nV (pl[i]'(by omega)),.ref (ts[i]'(by rw [hst.len];exact hlt)),SqT.of hb2,hts2,?_,?_⟩,?_⟩
    ·rw [List.getElem?_map,List.getElem?_eq_getElem (show i < pl.length by omega)];rfl
    ·rw [List.getElem?_map,List.getElem?_eq_getElem (show i < ts.length by rw [hst.len];exact hlt)];rfl
    ·rintro x H3 ⟨T,u,v,rfl,hT,rfl,huv⟩
     obtain ⟨eu,ev⟩:=huv _ _ (SqT.of hb2) hts2
     obtain ⟨t,hti,rfl⟩:=ref_at ev
     have hsi:sts[i]?=some sts[i]:=List.getElem?_eq_getElem hlt
     have hpi:pl[i]?=some (pl[i]'(by omega)):=List.getElem?_eq_getElem (by omega)
     rw [List.getElem?_map,hpi] at eu
     have eu':nV (pl[i]'(by omega))=u:=Option.some.inj eu
     subst eu'
     obtain ⟨hT1,hO⟩:=hst.item i t _ hti hsi
     have S2:=same_upd (o:=.tup [nV (pl[i]'(by omega)),.ref t]) hT
     have SS:=(S0.trans S).trans S2
     have hto:turnOk es (pl[i]'(by omega)) sts[i]:=by
      obtain ⟨d1,cp1,hw1,hl1⟩:=walk_places hwk i hi
      obtain ⟨d',ws,hA,hw'⟩:=walk_at hwk hsi hw1
      obtain ⟨d2,cp2,hw2,hl2⟩:=walk_places hwk (i+1) hlt
      rw [hw'] at hw2
      have e:=(Prod.mk.inj (Prod.mk.inj (Option.some.inj hw2)).2).2
      have e3:(pl.take i++[d1])[i]?=(pl.take (i+1))[i]?:=by rw [show pl.take i++[d1]=pl.take (i+1) from e]
      rw [List.getElem?_append_right (by rw [List.length_take];omega),List.getElem?_take_of_lt (by omega),hpi] at e3
      have e4:i - (pl.take i).length=0:=by rw [List.length_take];omega
      rw [e4] at e3
      have e5:d1=pl[i]'(by omega):=by simpa using e3
      rw [<-e5]
      exact after_turn hA
     refine ⟨T,_,rfl,SqT.of upd_same,rfl,_,_,rfl,_,_,rfl,rfl,?_⟩
     refine yes_ _ _ _ ?_
     rw [if_pos rfl]
     refine ⟨_,rfl,_,rfl,_,rfl,_,rfl,p,t,r,es,_,_,pr,rfl,sameT SS hp,hg,sameT SS hT1,hO,hto,sameT SS hpr,hl7,?_⟩
     refine ⟨by rw [hacc];exact fewer (by omega),sts.length - (i+1),by omega,hlt,rfl,?_,S.trans S2,_,_,rfl⟩
     rw [List.take_succ_eq_append_getElem (by rw [hzl];exact hlt),List.map_append,List.getElem_zip]
     rfl
   ·have ei:i=sts.length:=by omega
    subst ei
    refine .inl ⟨⟨_,_,SqT.of hb2,hts2,.inl (by rw [List.length_map,hpll];exact Nat.le_refl _)⟩,by rw [hacc];exact few (by omega),fun D hD=>?_⟩
    have q':Q (.int ((pl.zip sts).map fun x:Nat × Sk=>price es x.1 pr x.2).sum) H:=q
    refine ⟨D,(pl.zip sts).map fun x:Nat × Sk=>price es x.1 pr x.2,rfl,SqL.of ?_,hq _ _ (Rst.same ((S0.trans S).trans (same_upd hD)) q')⟩
    rw [upd_same,<-hzl,List.take_length,List.map_map]
    rfl
theorem ways_few {es cs:List Str} {i j:Nat} (h:es.length<=1000):(ways es cs i j).length<=1100:=by
 have l6:(w6 es i j).length<=1000:=by
  unfold w6 skips
  rw [List.length_map]
  split
  ·exact Nat.zero_le _
  ·rw [List.length_map]
   exact Nat.le_trans (List.length_filter_le _ _) (by rw [List.length_range];omega)
 have l1:(w1 es cs i j).length<=1:=by unfold w1;split <;> simp
 have l2:(w2 es i j).length<=1:=by unfold w2;split <;> simp
 have l3:(w3 cs i j).length<=1:=by unfold w3;split <;> simp
 have l4:(w4 cs i j).length<=1:=by unfold w4;split <;> simp
 have l5:(w5 es cs i j).length<=1:=by unfold w5;split <;> simp
 unfold ways
 simp only [List.length_append]
 omega
structure NumsAt (H:Hp) (t:Addr) (ps:List Addr) (m n:Nat) (F:Nat->Nat->Int):Prop where
 top:H t=some (.tup (ps.map V.ref))
 len:ps.length=m+1
 row:∀ i y,ps[i]?=some y->H y=some (.tup ((List.range (n+1)).map fun j=>V.int (F i j)))
theorem atI_last {xs:List V} {v:V} (h:xs[xs.length - 1]?=some v) (h0:0 < xs.length):atI xs (-1)=some v:=by
 unfold atI
 rw [<-h]
 have e:ixN xs.length (-1)=some (xs.length - 1):=by
  unfold ixN
  rw [if_neg (by omega)]
  rw [if_pos (by omega)]
  congr 1
  omega
 rw [e]
 rfl
theorem bits_cell {ns:List Int} (hb:∀ m ∈ ns,Builtin.Int.intBits m<=1048576) (k:Int):Builtin.Int.intBits (cellD ns k)<=1048576:=by
 unfold cellD
 cases e:ns[k.toNat]? with
 | none=>show Builtin.Int.intBits 0<=_;decide
 | some n=>exact hb n (List.mem_of_getElem? e)
def spStir:Sp:=fun vs H Q _=>∃ c:Int,vs=[.int c]/\Builtin.Int.intBits c<=1048576/\∀ v:Int,Q (.int v) H
theorem scStir:FnScope ["cell"] ["cell"] (defScope sStir):=⟨rfl,rfl,rfl,by decide +kernel,rfl,by decide +kernel,by decide +kernel⟩
theorem ok_stir {f:Addr} {fd:FuncData} (F:Fun K "_law_stir" "_law_stir" sStir f fd):FnOk P w K mg base CX0 1 f fd ["cell"] spStir:=by
 refine Fun.okR F scStir (fun vs H Q E h=>?_) (fun cdv A outer s H vs Q Q2 E hr h hq=>?_)
 ·obtain ⟨c,rfl,_⟩:=h
  rfl
 ·obtain ⟨c,rfl,hb,q⟩:=h
  refine ⟨_,pss_one (ps_ret (pe_op op_mod (pe_op op_mulB (pv 0) pe_int) pe_int)),?_⟩
  refine ⟨_,rfl,_,_,rfl,rfl,PyProof.Rows.mulOk_of_bits (n:=1000) hb (by decide +kernel) (by decide),_,_,rfl,rfl,(by show (0:Int) < 170141183460469231731687303715884105727;decide),hq _ _ (Rst.same (Same.refl H) (q _))⟩
def spWord:Sp:=fun vs H Q _=>∃ a b:Int,vs=[.int a,.int b]/\∀ z,Good z->Q (.str z) H
theorem scWord:FnScope ["seed","code","letters","size","rest","word","k","step"] ["seed","code"] (defScope sWord):=⟨rfl,rfl,rfl,by decide +kernel,rfl,by decide +kernel,by decide +kernel⟩
theorem letter_at (r:Int):∃ c,atI (letters.cps.toList) (r % 26)=some c/\Al c:=by
 have h0:0<=r % 26:=Int.emod_nonneg _ (by decide)
 have h1:r % 26 < 26:=Int.emod_lt_of_pos _ (by decide)
 have e:r % 26=((r % 26).toNat:Int):=by omega
 refine ⟨97+(r % 26).toNat,?_,al_mod _ (by omega)⟩
 rw [e]
 refine atI_nat ?_
 rw [letters_cps,List.getElem?_map,List.getElem?_range (by omega)]
 rfl
def Lets (z:Str) (n:Nat):Prop:=z.length=n/\∀ c ∈ z.cps.toList,Al c
theorem lets_app {z:Str} {n c:Nat} (h:Lets z n) (hc:Al c):Lets (z++⟨#[c]⟩) (n+1):=by
 refine ⟨by rw [app_len,h.1];rfl,fun d hd=>?_⟩
 rw [app_list] at hd
 rcases List.mem_append.mp hd with hd | hd
 ·exact h.2 d hd
 ·have:d=c:=by simpa using hd
  rw [this];exact hc
theorem lets_good {z:Str} {n:Nat} (h:Lets z n) (h1:1<=n) (h2:n<=12):Good z:=⟨by rw [h.1];exact h1,by rw [h.1];exact h2,h.2⟩
theorem ok_word {f:Addr} {fd:FuncData} (F:Fun K "_law_word" "_law_word" sWord f fd) (mrange:mg "range" = none):FnOk P w K mg base CX0 1 f fd ["seed","code"] spWord:=by
 refine Fun.okR F scWord (fun vs H Q E h=>?_) (fun cdv A outer s H vs Q Q2 E hr h hq=>?_)
 ·obtain ⟨a,b,rfl,_⟩:=h
  rfl
 ·obtain ⟨a,b,rfl,q⟩:=h
  refine ⟨_,pss_cons (ps_set (i:=2) scWord.nd rfl (Or.inl rfl) pe_str)
   (pss_cons (ps_set (i:=3) scWord.nd rfl (Or.inl rfl) (pe_op op_add pe_int (pe_op op_mod (pv 0) pe_int)))
   (pss_cons (ps_set (i:=4) scWord.nd rfl (Or.inl rfl) (pe_op op_fdiv (pv 0) pe_int))
   (pss_cons (ps_set (i:=5) scWord.nd rfl (Or.inl rfl) pe_str)
   (pss_cons (ps_for PassesOwn.never rfl (pi_range1 (by rfl) mrange (pa_cons (pv 3) pa_nil)) (pg_name (i:=6) scWord.nd rfl (Or.inl rfl)) (pss_cons (ps_set (i:=7) scWord.nd rfl (Or.inl rfl) pe_int)
   (pss_cons (ps_mid (ps_if (pt_cmpR op_eq (pv 6) (pe_op op_mod (pe_op op_fdiv (pv 1) pe_int) (pv 3)) (nomark _)) (pss_one (ps_set (i:=7) scWord.nd rfl (Or.inl rfl) (pe_op op_mod (pv 1) pe_int))) pss_nil))
   (pss_cons (ps_set (i:=5) scWord.nd rfl (Or.inl rfl) (pe_op op_add_str (pv 5) (pe_ix ix_str (pv 2) (pe_op op_mod (pe_op op_add (pv 4) (pv 7)) pe_int) (fun _ _=>rfl))))
   (pss_one (ps_set (i:=4) scWord.nd rfl (Or.inl rfl) (pe_op op_fdiv (pv 4) pe_int)))))))
   (pss_cons (ps_mid (ps_if (pw_and (pt_cmpR op_eq (pv 1) pe_int (nomark _)) (pw_and1 (pt_cmpR op_lt (pv 3) pe_int (nomark _)))).pt (pss_one (ps_set (i:=5) scWord.nd rfl (Or.inl rfl) (pe_op op_add_str (pv 5) pe_str))) pss_nil))
   (pss_one (ps_ret (pv 5)))))))),?_⟩
  have m0:0<=a % 12:=Int.emod_nonneg _ (by decide)
  have m1:a % 12 < 12:=Int.emod_lt_of_pos _ (by decide)
  obtain ⟨n,hn⟩:∃ n:Nat,1+a % 12=(n:Int):=⟨(1+a % 12).toNat,by omega⟩
  refine ⟨_,rfl,_,_,rfl,rfl,(by show (0:Int) < 12;decide),_,_,rfl,rfl,?_⟩
  refine ⟨_,rfl,_,_,rfl,rfl,⟨by decide,by decide⟩,?_⟩
  refine ⟨_,rfl,1+a % 12,rfl,by omega,by omega,?_⟩
  refine for_range (n:=(1+a % 12).toNat) (fun i σ H2=>∃ (z:Str) (r:Int) (v6 v7:Option V),σ=[some (.int a),some (.int b),some (.str letters),some (.int (1+a % 12)),some (.int r),some (.str z),v6,v7]/\H2=H/\Lets z i)
   ⟨Str.ofString "",_,none,none,rfl,rfl,by decide +kernel,fun c hc=>absurd hc (by rw [show (Str.ofString "").cps.toList=[] from by decide +kernel];exact List.not_mem_nil)⟩ ?_ ?_
  ·rintro i σ H2 hi ⟨z,r,v6,v7,rfl,rfl,hz⟩
   refine ⟨fun σ' H'=>∃ s7:Int,σ'=[some (.int a),some (.int b),some (.str letters),some (.int (1+a % 12)),some (.int r),some (.str z),some (.int (0+((i:Nat):Int))),some (.int s7)]/\H'=H2,?_,?_⟩
   ·refine ⟨_,rfl,_,rfl,_,_,rfl,rfl,⟨by decide,by decide⟩,_,rfl,_,_,rfl,rfl,(by show (0:Int) < 1+a % 12;omega),rfl,_,rfl,?_⟩
    refine ite2 (fun _=>⟨_,rfl,_,_,rfl,rfl,(by show (0:Int) < 3;decide),_,rfl,rfl⟩) (fun _=>⟨_,rfl,rfl⟩)
   ·rintro σ' H' ⟨s7,rfl,rfl⟩
    obtain ⟨c,hc,ac⟩:=letter_at (r+s7)
    refine ⟨_,rfl,_,rfl,_,rfl,_,rfl,_,_,rfl,rfl,_,_,rfl,rfl,(by show (0:Int) < 26;decide),letters,_,c,rfl,rfl,(by decide +kernel),hc,_,_,rfl,rfl,few (by rw [hz.1];show _+1<=_;omega),?_⟩
    exact ⟨_,rfl,_,_,rfl,rfl,⟨by decide,by decide⟩,_,_,_,_,rfl,rfl,lets_app hz ac⟩
  ·rintro σ H2 ⟨z,r,v6,v7,rfl,rfl,hz⟩
   refine ⟨fun σ' H'=>∃ (z':Str) (v6' v7':Option V),σ'=[some (.int a),some (.int b),some (.str letters),some (.int (1+a % 12)),some (.int r),some (.str z'),v6',v7']/\H'=H2/\Good z',?_,?_⟩
   ·have g0:Good z:=lets_good hz (by omega) (by omega)
    refine ⟨_,rfl,rfl,_,rfl,?_⟩
    refine ite2 (fun _=>?_) (fun _=>iteF ⟨z,v6,v7,rfl,rfl,g0⟩)
    refine ⟨_,rfl,_,_,rfl,rfl,_,rfl,?_⟩
    refine ite2 (fun h12=>?_) (fun _=>⟨z,v6,v7,rfl,rfl,g0⟩)
    have h12:=of_decide_eq_true h12
    have hq1:=lets_app (c:=113) hz (by unfold Al;omega)
    have eq1:Str.ofString "q" = (⟨#[113]⟩:Str):=by decide +kernel
    refine ⟨_,rfl,_,_,rfl,rfl,few (by rw [hz.1,eq1];show _+1<=_;omega),_,_,_,rfl,rfl,?_⟩
    rw [eq1]
    exact lets_good hq1 (by omega) (by omega)
   ·rintro σ' H' ⟨z',v6',v7',rfl,rfl,hg⟩
    exact ⟨_,rfl,hq _ _ (Rst.same (Same.refl _) (q _ hg))⟩
theorem bits_mod (x:Int):Builtin.Int.intBits (x % 170141183460469231731687303715884105727)<=1048576:=by
 refine PyProof.Rows.bits_of_natAbs_le (b:=170141183460469231731687303715884105727) ?_ (by decide +kernel)
 have h0:0<=x % 170141183460469231731687303715884105727:=Int.emod_nonneg _ (by decide)
 have h1:x % 170141183460469231731687303715884105727 < 170141183460469231731687303715884105727:=Int.emod_lt_of_pos _ (by decide)
 omega
def spStirB:Sp:=fun vs H Q _=>∃ c:Int,vs=[.int c]/\Builtin.Int.intBits c<=1048576/\∀ v:Int,Builtin.Int.intBits v<=1048576->Q (.int v) H
theorem ok_stirB {f:Addr} {fd:FuncData} (F:Fun K "_law_stir" "_law_stir" sStir f fd):FnOk P w K mg base CX0 1 f fd ["cell"] spStirB:=by
 refine Fun.okR F scStir (fun vs H Q E h=>?_) (fun cdv A outer s H vs Q Q2 E hr h hq=>?_)
 ·obtain ⟨c,rfl,_⟩:=h
  rfl
 ·obtain ⟨c,rfl,hb,q⟩:=h
  refine ⟨_,pss_one (ps_ret (pe_op op_mod (pe_op op_mulB (pv 0) pe_int) pe_int)),?_⟩
  refine ⟨_,rfl,_,_,rfl,rfl,PyProof.Rows.mulOk_of_bits (n:=1000) hb (by decide +kernel) (by decide),_,_,rfl,rfl,(by show (0:Int) < 170141183460469231731687303715884105727;decide),hq _ _ (Rst.same (Same.refl H) (q _ (bits_mod _)))⟩
theorem scNext:FnScope ["left"] ["left"] (defScope sNext):=⟨rfl,rfl,rfl,by decide +kernel,rfl,by decide +kernel,by decide +kernel⟩
theorem ok_next {f:Addr} {fd:FuncData} (F:Fun K "_law_next" "_law_next" sNext f fd):FnOk P w K mg base CX0 1 f fd ["left"] spStirB:=by
 refine Fun.okR F scNext (fun vs H Q E h=>?_) (fun cdv A outer s H vs Q Q2 E hr h hq=>?_)
 ·obtain ⟨c,rfl,_⟩:=h
  rfl
 ·obtain ⟨c,rfl,hb,q⟩:=h
  refine ⟨_,pss_one (ps_ret (pe_op op_mod (pe_op op_mulB (pv 0) pe_int) pe_int)),?_⟩
  refine ⟨_,rfl,_,_,rfl,rfl,PyProof.Rows.mulOk_of_bits (n:=1000) hb (by decide +kernel) (by decide),_,_,rfl,rfl,(by show (0:Int) < 170141183460469231731687303715884105727;decide),hq _ _ (Rst.same (Same.refl H) (q _ (bits_mod _)))⟩
def spPrices:Sp:=fun vs H Q _=>∃ c:Int,vs=[.int c]/\Builtin.Int.intBits c<=1048576/\∀ (H':Hp) (p:Addr) (pr:List Int),Same H H'->H' p=some (.tup (pr.map V.int))->pr.length=7->(∀ x ∈ pr,0<=x/\x<=10 ^ 30)->Q (.ref p) H'
theorem scPrices:FnScope ["cell","left","prices","k","price"] ["cell"] (defScope sPrices):=⟨rfl,rfl,rfl,by decide +kernel,rfl,by decide +kernel,by decide +kernel⟩
theorem ok_prices {f gS gN:Addr} {fd dS dN:FuncData} (F:Fun K "_law_prices" "_law_prices" sPrices f fd) (DS:Dfn K mg "_law_stir" sStir gS dS ["cell"]) (DN:Dfn K mg "_law_next" sNext gN dN ["left"]) (mrange:mg "range" = none) (mtup:mg "tuple" = none):FnOk P w K mg base CX0 2 f fd ["cell"] spPrices:=by
 have GS:FnOk P w K mg base CX0 1 gS dS ["cell"] spStirB:=ok_stirB DS.fn
 have GN:FnOk P w K mg base CX0 1 gN dN ["left"] spStirB:=ok_next DN.fn
 refine F.ok scPrices (fun vs H Q E h=>?_) (fun cdv A outer s H vs Q E hr h=>?_)
 ·obtain ⟨c,rfl,_⟩:=h
  rfl
 ·obtain ⟨c,rfl,hb,q⟩:=h
  refine ⟨_,pss_cons (ps_set (i:=1) scPrices.nd rfl (Or.inl rfl) (pe_call GS hr (by rfl) DS.at_ DS.fn.kp DS.bn .nil pass0 (pa_cons (pv 0) pa_nil)))
   (pss_cons (ps_set (i:=2) scPrices.nd rfl (Or.inl rfl) (pe_lst pa_nil))
   (pss_cons (ps_for PassesOwn.never rfl (pi_range1 (by rfl) mrange (pa_cons pe_int pa_nil)) (pg_name (i:=3) scPrices.nd rfl (Or.inl rfl))
    (pss_cons (ps_set (i:=4) scPrices.nd rfl (Or.inl rfl) (pe_op op_mod (pe_op op_fdiv (pv 1) pe_int) pe_int))
    (pss_cons (ps_mid (ps_if (pt_cmpR op_eq (pe_op op_mod (pv 1) pe_int) pe_int (nomark _)) (pss_one (ps_set (i:=4) scPrices.nd rfl (Or.inl rfl) (pe_op op_mod (pe_op op_fdiv (pv 1) pe_int) pe_int))) pss_nil))
    (pss_cons (ps_mid (ps_if (pw_and (pt_cmpR op_eq (pe_op op_mod (pv 1) pe_int) pe_int (nomark _)) (pw_and1 (pt_cmpR op_eq (pe_op op_mod (pv 0) pe_int) pe_int (nomark _)))).pt (pss_one (ps_set (i:=4) scPrices.nd rfl (Or.inl rfl) (pe_op op_mod (pe_op op_fdiv (pv 0) (pe_op op_add (pv 3) pe_int)) (pe_op op_add (pe_op op_pow pe_int pe_int) pe_int)))) pss_nil))
    (pss_cons (ps_expr (pe_bm PySem.F.plainAttrs_list PySem.F.slot_list_append PySem.F.type_list_append mt_append (pv 2) (pa_cons (pv 4) pa_nil)))
    (pss_one (ps_set (i:=1) scPrices.nd rfl (Or.inl rfl) (pe_call GN hr (by rfl) DN.at_ DN.fn.kp DN.bn .nil pass0 (pa_cons (pv 1) pa_nil)))))))))
   (pss_one (ps_ret (pe_callTy call_tuple_of (by rfl) mtup boot_tuple (pa_cons (pv 2) pa_nil)))))),?_⟩
  have hM:(0:Int) < 10 ^ 30+1:=by decide
  have h4:(0:Int) < 4:=by decide
  have h12:(0:Int) < 12:=by decide
  have h3:(0:Int) < 3:=by decide
  refine ⟨_,rfl,c,rfl,hb,fun v hv=>⟨Nat.zero_le _,fun l hl=>?_⟩⟩
  refine ⟨7,rfl,by decide,by decide,for_range (n:=7) (fun i σ H2=>∃ (left:Int) (v3 v4:Option V) (pr:List Int),σ=[some (.int c),some (.int left),some (.ref l),v3,v4]/\Builtin.Int.intBits left<=1048576/\H2 l=some (.lst (pr.map V.int))/\Same H H2/\pr.length=i/\∀ x ∈ pr,0<=x/\x<=10 ^ 30)
   ⟨v,none,none,[],rfl,hv,upd_same,same_upd hl,rfl,fun _ z=>nomatch z⟩ ?_ ?_⟩
  ·rintro i σ H2 hi ⟨left,v3,v4,pr,rfl,hlb,h2,S2,hpl,hall⟩
   refine ⟨_,rfl,_,_,rfl,rfl,⟨by decide,by decide⟩,_,_,rfl,rfl,h4,?_⟩
   have m4:0<=left / 4 % 4/\left / 4 % 4<=10 ^ 30:=⟨Int.emod_nonneg _ (by decide),by have:=Int.emod_lt_of_pos (left / 4) h4;omega⟩
   have m12:0<=left / 4 % 12/\left / 4 % 12<=10 ^ 30:=⟨Int.emod_nonneg _ (by decide),by have:=Int.emod_lt_of_pos (left / 4) h12;omega⟩
   refine ⟨fun σ' H'=>H'=H2/\∃ x:Int,(0<=x/\x<=10 ^ 30)/\σ'=[some (.int c),some (.int left),some (.ref l),some (.int (0+((i:Nat):Int))),some (.int x)],?_,?_⟩
   ·refine ⟨_,rfl,_,_,rfl,rfl,h4,rfl,_,rfl,ite2 (fun _=>?_) (fun _=>⟨rfl,_,m4,rfl⟩)⟩
    exact ⟨_,rfl,_,_,rfl,rfl,⟨by decide,by decide⟩,_,_,rfl,rfl,h12,rfl,_,m12,rfl⟩
   rintro σ' H' ⟨rfl,x,hx,rfl⟩
   refine ⟨fun σ'' H''=>H''=H'/\∃ x:Int,(0<=x/\x<=10 ^ 30)/\σ''=[some (.int c),some (.int left),some (.ref l),some (.int (0+((i:Nat):Int))),some (.int x)],?_,?_⟩
   ·refine ⟨_,rfl,_,_,rfl,rfl,h4,rfl,_,rfl,ite2 (fun _=>?_) (fun _=>iteF ⟨rfl,_,hx,rfl⟩)⟩
    refine ⟨_,rfl,_,_,rfl,rfl,h3,rfl,_,rfl,ite2 (fun _=>?_) (fun _=>⟨rfl,_,hx,rfl⟩)⟩
    refine ⟨_,rfl,_,rfl,_,_,rfl,rfl,_,_,rfl,rfl,⟨by omega,by omega⟩,_,_,rfl,rfl,⟨by decide,by decide,by decide⟩,_,_,rfl,rfl,_,_,rfl,rfl,hM,rfl,_,⟨Int.emod_nonneg _ (by decide),?_⟩,rfl⟩
    have:=Int.emod_lt_of_pos (c / (0+((i:Nat):Int)+1)) hM
    exact Int.lt_add_one_iff.mp this
   rintro σ'' H'' ⟨rfl,y,hy,rfl⟩
   refine ⟨_,rfl,.inl ⟨rfl,_,SqL.of h2⟩,_,rfl,l,_,_,rfl,rfl,h2,(by rw [List.length_map];exact fewer (by omega)),?_⟩
   refine ⟨_,rfl,left,rfl,hlb,fun v2 hv2=>⟨v2,_,_,pr++[y],rfl,hv2,by rw [upd_same,List.map_append];rfl,same_to S2 hl,by rw [List.length_append,hpl];rfl,fun z hz=>?_⟩⟩
   rcases List.mem_append.mp hz with hz | hz
   ·exact hall z hz
   ·rw [List.mem_singleton.mp hz];exact hy
  ·rintro σ H2 ⟨left,v3,v4,pr,rfl,hlb,h2,S2,hpl,hall⟩
   refine ⟨_,rfl,l,_,rfl,.inl ⟨SqL.of h2,fun t ht=>?_⟩⟩
   exact q _ t pr (S2.trans (same_upd ht)) upd_same hpl hall
theorem gt_more {es m:List Str} {d:Nat} (h:d < es.length):gt (es++m) d=gt es d:=by
 unfold gt
 rw [List.getElem?_append_left h]
theorem after_more {es:List Str} (m:List Str) {d:Nat} {last:Option Str} {st:Sk} {y:Nat × List Str} (h:after es d last st=some y):after (es++m) d last st=some y:=by
 unfold after at h ⊢
 have hl:(es++m).length=es.length+m.length:=List.length_append
 split at h
 ·rename_i hf
  cases h
  cases st with
  | keep=>
   have hd:d < es.length:=of_decide_eq_true hf
   rw [if_pos (show fitsB (es++m) d last .keep=true from decide_eq_true (by omega))]
   show some (d+1,[gt (es++m) d])=some (d+1,[gt es d])
   rw [gt_more hd]
  | lose=>
   have hd:d < es.length:=of_decide_eq_true hf
   rw [if_pos (show fitsB (es++m) d last .lose=true from decide_eq_true (by omega))]
   rfl
  | twice=>
   rw [if_pos (show fitsB (es++m) d last .twice=true from hf)]
   rfl
  | add z=>
   rw [if_pos (show fitsB (es++m) d last (.add z)=true from rfl)]
   rfl
  | turn z=>
   obtain ⟨h1,h2⟩:=Bool.and_eq_true_iff.mp (show (decide (d < es.length) && !decide (es[d]?=some z))=true from hf)
   have hd:=of_decide_eq_true h1
   rw [if_pos (show fitsB (es++m) d last (.turn z)=true from by
    show (decide (d < (es++m).length) && !decide ((es++m)[d]?=some z))=true
    rw [List.getElem?_append_left hd,h2,decide_eq_true (by omega)]
    rfl)]
   rfl
  | swap=>
   obtain ⟨h1,h2⟩:=Bool.and_eq_true_iff.mp (show (decide (d+1 < es.length) && !decide (es[d]?=es[d+1]?))=true from hf)
   have hd:=of_decide_eq_true h1
   rw [if_pos (show fitsB (es++m) d last .swap=true from by
    show (decide (d+1 < (es++m).length) && !decide ((es++m)[d]?=(es++m)[d+1]?))=true
    rw [List.getElem?_append_left (show d < es.length by omega),List.getElem?_append_left hd,h2,decide_eq_true (by omega)]
    rfl)]
   show some (d+2,[gt (es++m) (d+1),gt (es++m) d])=some (d+2,[gt es (d+1),gt es d])
   rw [gt_more hd,gt_more (show d < es.length by omega)]
  | skip n=>
   obtain ⟨h1,h2⟩:=Bool.and_eq_true_iff.mp (show (decide (1<=d/\d+n<=es.length) && decide (es[d+n - 1]?=es[d - 1]?))=true from hf)
   have hd:=of_decide_eq_true h1
   rw [if_pos (show fitsB (es++m) d last (.skip n)=true from by
    show (decide (1<=d/\d+n<=(es++m).length) && decide ((es++m)[d+n - 1]?=(es++m)[d - 1]?))=true
    rw [List.getElem?_append_left (show d+n - 1 < es.length by omega),List.getElem?_append_left (show d - 1 < es.length by omega),h2,decide_eq_true (by omega)]
    rfl)]
   rfl
 ·cases h
theorem walk_more {es:List Str} (m:List Str):∀ (sts:List Sk) (x:WS) {y:WS},walk es sts x=some y->walk (es++m) sts x=some y
 | [],x,y,h=>h
 | st :: r,x,y,h=>by
  have h':(walk1 es x st).bind (walk es r)=some y:=h
  show (walk1 (es++m) x st).bind (walk (es++m) r)=some y
  cases ha:after es x.1 x.2.1.getLast? st with
  | none=>
   unfold walk1 at h'
   rw [ha] at h'
   cases h'
  | some u=>
   have e:walk1 (es++m) x st=walk1 es x st:=by
    unfold walk1
    rw [after_more m ha,ha]
   rw [e]
   cases hw:walk1 es x st with
   | none=>rw [hw] at h';cases h'
   | some z=>
    rw [hw] at h'
    exact walk_more m r z h'
theorem walk_snoc {es:List Str} {sts:List Sk} {x:WS} {d:Nat} {cp:List Str} {pl:List Nat} {st:Sk} {y:Nat × List Str} (h:walk es sts x=some (d,cp,pl)) (ha:after es d cp.getLast? st=some y):walk es (sts++[st]) x=some (y.1,cp++y.2,pl++[d]):=by
 rw [walk_append,h,Option.bind_some,walk_one]
 unfold walk1
 rw [ha]
 rfl
theorem gt_new (es:List Str) (a:Str) (r:List Str):gt (es++a :: r) es.length=a:=by
 unfold gt
 rw [List.getElem?_append_right (Nat.le_refl _),Nat.sub_self]
 rfl
theorem gt_new2 (es:List Str) (a b:Str):gt (es++[a,b]) (es.length+1)=b:=by
 unfold gt
 rw [List.getElem?_append_right (by omega),Nat.add_sub_cancel_left]
 rfl
theorem len_one (es:List Str) (a:Str):(es++[a]).length=es.length+1:=by rw [List.length_append];rfl
theorem len_two (es:List Str) (a b:Str):(es++[a,b]).length=es.length+2:=by rw [List.length_append];rfl
theorem af_keep (es:List Str) (a:Str) (last:Option Str):after (es++[a]) es.length last .keep=some ((es++[a]).length,[a]):=by
 unfold after
 rw [if_pos (show fitsB (es++[a]) es.length last .keep=true from decide_eq_true (by rw [len_one];omega)),len_one]
 show some (es.length+1,[gt (es++[a]) es.length])=_
 rw [gt_new]
theorem af_lose (es:List Str) (a:Str) (last:Option Str):after (es++[a]) es.length last .lose=some ((es++[a]).length,[]):=by
 unfold after
 rw [if_pos (show fitsB (es++[a]) es.length last .lose=true from decide_eq_true (by rw [len_one];omega)),len_one]
 rfl
theorem af_add (es:List Str) (a:Str) (last:Option Str):after es es.length last (.add a)=some (es.length,[a]):=rfl
theorem af_twice (es:List Str) (z:Str):after es es.length (some z) .twice=some (es.length,[z]):=rfl
theorem af_turn (es:List Str) {a b:Str} (last:Option Str) (h:a ≠ b):after (es++[a]) es.length last (.turn b)=some ((es++[a]).length,[b]):=by
 unfold after
 rw [if_pos (show fitsB (es++[a]) es.length last (.turn b)=true from by
  show (decide (es.length < (es++[a]).length) && !decide ((es++[a])[es.length]?=some b))=true
  rw [some_dec (by rw [len_one];omega),gt_new,decide_eq_false h,decide_eq_true (by rw [len_one];omega)]
  rfl),len_one]
 rfl
theorem af_swap (es:List Str) {a b:Str} (last:Option Str) (h:a ≠ b):after (es++[a,b]) es.length last .swap=some ((es++[a,b]).length,[b,a]):=by
 unfold after
 rw [if_pos (show fitsB (es++[a,b]) es.length last .swap=true from by
  show (decide (es.length+1 < (es++[a,b]).length) && !decide ((es++[a,b])[es.length]?=(es++[a,b])[es.length+1]?))=true
  rw [gt_of (show es.length+1 < (es++[a,b]).length by rw [len_two];omega),some_dec (by rw [len_two];omega),gt_new,gt_new2,decide_eq_false h,decide_eq_true (by rw [len_two];omega)]
  rfl),len_two]
 show some (es.length+2,[gt (es++[a,b]) (es.length+1),gt (es++[a,b]) es.length])=_
 rw [gt_new,gt_new2]
theorem af_skip (es vs:List Str) {z:Str} (last:Option Str) (hz:es.getLast?=some z):after (es++(vs++[z])) es.length last (.skip (vs++[z]).length)=some ((es++(vs++[z])).length,[]):=by
 have hne:1<=es.length:=by
  cases es with
  | nil=>cases hz
  | cons x r=>exact Nat.succ_le_succ (Nat.zero_le _)
 have hl:(vs++[z]).length=vs.length+1:=len_one vs z
 have hl2:(es++(vs++[z])).length=es.length+(vs.length+1):=by rw [List.length_append,hl]
 unfold after
 rw [if_pos (show fitsB (es++(vs++[z])) es.length last (.skip (vs++[z]).length)=true from by
  show (decide (1<=es.length/\es.length+(vs++[z]).length<=(es++(vs++[z])).length) && decide ((es++(vs++[z]))[es.length+(vs++[z]).length - 1]?=(es++(vs++[z]))[es.length - 1]?))=true
  have e1:(es++(vs++[z]))[es.length+(vs++[z]).length - 1]?=some z:=by
   rw [List.getElem?_append_right (by omega),hl,show es.length+(vs.length+1) - 1 - es.length=vs.length by omega,List.getElem?_append_right (Nat.le_refl _),Nat.sub_self]
   rfl
  have e2:(es++(vs++[z]))[es.length - 1]?=some z:=by
   rw [List.getElem?_append_left (by omega),<-List.getLast?_eq_getElem?]
   exact hz
  rw [e1,e2,decide_eq_true rfl,decide_eq_true (by rw [hl2,hl];omega)]
  rfl)]
 show some (es.length+(vs++[z]).length,[])=_
 rw [hl2,hl]
def spEye (K:PySem.W.Frag):Sp:=fun vs H Q _=>∃ (lE:Addr) (es:List Str) (a b c:Int),vs=[.ref lE,.int a,.int b,.int c]/\H lE=some (.lst (es.map V.str))/\es ≠ []/\(∀ z ∈ es,Good z)/\es.length<=100000 ∧
 ∀ (H':Hp) (l:Addr) (ws:List Str),Same H H'->H l=none->H' l=some (.lst (ws.map V.str))->(∀ z ∈ ws,Good z)->1<=ws.length->ws.length<=12->(∃ vs z,ws=vs++[z]/\es.getLast?=some z)->(((es.length:Nat):Int)+((ws.length:Nat):Int)<=c+1\/ws.length=1)->Q (.ref l) H'
theorem scEye:FnScope ["elder","left","seed","most","many"] ["elder","left","seed","most"] (defScope sEye):=⟨rfl,rfl,rfl,by decide +kernel,rfl,by decide +kernel,by decide +kernel⟩
theorem nd_kls:(["k","left","seed"]:List Str).Nodup:=by decide +kernel
theorem ok_eye {f gW:Addr} {fd dW:FuncData} (F:Fun K "_law_eye" "_law_eye" sEye f fd) (DW:Dfn K mg "_law_word" sWord gW dW ["seed","code"]) (mlen:mg "len" = none) (mrange:mg "range" = none) (mmax:mg "max" = none) (mmin:mg "min" = none):FnOk P w K mg base CX0 2 f fd ["elder","left","seed","most"] (spEye K):=by
 have GW:FnOk P w K mg base CX0 1 gW dW ["seed","code"] spWord:=ok_word DW.fn mrange
 refine F.ok scEye (fun vs H Q E h=>?_) (fun cdv A outer s H vs Q E hr h=>?_)
 ·obtain ⟨lE,es,a,b,c,rfl,_⟩:=h
  rfl
 ·obtain ⟨lE,es,a,b,c,rfl,hE,hne,hg,hel,q⟩:=h
  refine ⟨_,pss_cons (ps_set (i:=4) scEye.nd rfl (Or.inl rfl) (pe_callB (call_max2 rfl) (by rfl) mmax boot_max (pa_cons pe_int (pa_cons (pe_callB (call_min2 rfl) (by rfl) mmin boot_min (pa_cons (pe_op op_mod (pe_op op_fdiv (pv 1) pe_int) pe_int) (pa_cons (pe_op op_sub (pv 3) (pe_callB call_len_seq (by rfl) mlen PySem.boot_len (pa_cons (pv 0) pa_nil))) pa_nil))) pa_nil))))
   (pss_one (ps_ret (pe_op op_cat (pe_comp (Nc:=["k","left","seed"]) (mp:=[none,some 1,some 2]) rfl (CompOk.of (by rfl)) (pi_range1 (by rfl) mrange (pa_cons (pv 4) pa_nil)) (fun cl C s H fp=>⟨pg_name (i:=0) nd_kls rfl (Or.inl rfl),pts_nil,(pe_call GW hr (by rfl) DW.at_ DW.fn.kp DW.bn .nil pass0 (pa_cons (pv 2) (pa_cons (pe_op op_mod (pe_op op_add (pe_op op_fdiv (pv 1) pe_int) (pe_op op_mul (pe_op op_mul pe_int (pv 0)) (pv 0))) pe_int) pa_nil)))⟩)) (pe_lst (pa_cons (pe_ix ix_list (pv 0) (pe_un un_neg pe_int) (fun _ _=>rfl)) pa_nil))))),?_⟩
  have m0:0<=a / 9000 % 12:=Int.emod_nonneg _ (by decide)
  have m1:a / 9000 % 12 < 12:=Int.emod_lt_of_pos _ (by decide)
  refine ⟨_,rfl,_,_,rfl,rfl,⟨by decide,by decide⟩,_,_,rfl,rfl,(by show (0:Int) < 12;decide),_,rfl,_,rfl,lE,_,rfl,.inl (SqL.of hE),_,_,rfl,rfl,_,_,rfl,_,_,rfl,?_⟩
  obtain ⟨many,hmany⟩:∃ many:Int,many=(if (if c - ((es.map V.str).length:Int) < a / 9000 % 12 then c - ((es.map V.str).length:Int) else a / 9000 % 12) > 0 then (if c - ((es.map V.str).length:Int) < a / 9000 % 12 then c - ((es.map V.str).length:Int) else a / 9000 % 12) else 0):=⟨_,rfl⟩
  have hm0:0<=many/\many < 12:=by rw [hmany];split <;> (split <;> omega)
  have hm1:((es.length:Nat):Int)+many<=c\/many=0:=by rw [hmany,List.length_map];split <;> (split <;> omega)
  refine ⟨_,rfl,many,(by rw [hmany]),by omega,by omega,?_⟩
  obtain ⟨n,hn⟩:∃ n:Nat,many=(n:Int):=⟨many.toNat,by omega⟩
  have en:many.toNat=n:=by omega
  rw [en]
  refine comp_grow (as:=List.range n) (v:=fun k=>.int (0+((k:Nat):Int))) (fun i acc H'=>H'=H/\∃ ws:List Str,acc=ws.map V.str/\ws.length=i/\∀ z ∈ ws,Good z) (fun i acc H' _ ⟨e,_⟩=>by rw [e];exact src_range 0 n H) (by rw [List.length_range];exact few (by omega))
   ⟨rfl,[],rfl,rfl,fun _ z=>nomatch z⟩ (fun i acc H' ⟨_,ws,e,hl,_⟩=>by rw [e,List.length_map,hl]) ?_ ?_
  ·rintro i k acc H' hk ⟨rfl,ws,rfl,hl,hw⟩ kk hkk
   have hk':k < 12:=by
    have:=List.mem_range.mp (List.mem_of_getElem? hk)
    omega
   refine ⟨_,rfl,_,rfl,_,_,rfl,rfl,⟨by decide,by decide⟩,_,rfl,_,_,rfl,rfl,.inl ⟨by decide,by decide⟩,_,rfl,_,_,rfl,rfl,.inr ⟨by show -(2 ^ 64) < 0+((k:Nat):Int);omega,by show 0+((k:Nat):Int) < 2 ^ 64;omega⟩,_,_,rfl,rfl,_,_,rfl,rfl,(by show (0:Int) < 10;decide),_,_,rfl,fun z hz=>hkk _ _ ⟨rfl,ws++[z],by rw [List.map_append];rfl,by rw [List.length_append,hl];rfl,fun y hy=>?_⟩⟩
   rcases List.mem_append.mp hy with hy | hy
   ·exact hw y hy
   ·rw [List.mem_singleton.mp hy];exact hz
  ·rintro acc H' ⟨rfl,ws,rfl,hl,hw⟩ D hD
   rw [List.length_range] at hl
   have SD:=same_upd (o:=.lst (ws.map V.str)) hD
   have hE1:=SD _ _ hE
   obtain ⟨z,ez,az⟩:=last_at (cp:=es) (by rcases es with _ | ⟨x,r⟩;exact absurd rfl hne;simp)
   have gz:Good z:=hg z (List.mem_of_getLast? ez)
   refine ⟨_,rfl,_,rfl,lE,_,_,_,rfl,rfl,SqL.of hE1,az,few (by show 1<=_;omega),fun l2 hl2=>?_⟩
   have S2:=same_upd (o:=.lst [.str z]) hl2
   refine ⟨D,l2,_,_,rfl,rfl,S2 _ _ upd_same,upd_same,(by rw [List.length_map];exact few (by show _+1<=_;omega)),fun l3 hl3=>?_⟩
   have S3:=same_upd (o:=.lst (ws.map V.str++[.str z])) hl3
   refine q _ l3 (ws++[z]) ((SD.trans S2).trans S3) ((SD.trans S2).free hl3) (by rw [upd_same,List.map_append];rfl) (fun y hy=>?_) (by rw [List.length_append];show 1<=_+1;omega) (by rw [List.length_append];show _+1<=_;omega) ⟨ws,z,rfl,ez⟩ (by rw [List.length_append];show _+(((ws.length+1:Nat)):Int)<=_\/ws.length+1=1;omega)
   rcases List.mem_append.mp hy with hy | hy
   ·exact hw y hy
   ·rw [List.mem_singleton.mp hy];exact gz
structure Tri (H H':Hp) (lE lC lS:Addr) (es cs:List Str) (ss:List V):Prop where
 fr:∀ x o,x ≠ lE->x ≠ lC->x ≠ lS->H x=some o->H' x=some o
 e:H' lE=some (.lst (es.map V.str))
 c:H' lC=some (.lst (cs.map V.str))
 s:H' lS=some (.lst ss)
 ec:lE ≠ lC
 es_:lE ≠ lS
 cs_:lC ≠ lS
theorem Tri.ne {H H':Hp} {lE lC lS:Addr} {es cs:List Str} {ss:List V} (t:Tri H H' lE lC lS es cs ss) (es2:List Str) {xs:List V} (h:xs=es2.map V.str):Tri H (upd H' lE (.lst xs)) lE lC lS es2 cs ss:=by
 subst h
 exact ⟨fun x o n1 n2 n3 h=>by rw [upd_ne n1];exact t.fr x o n1 n2 n3 h,upd_same,by rw [upd_ne (Ne.symm t.ec)];exact t.c,by rw [upd_ne (Ne.symm t.es_)];exact t.s,t.ec,t.es_,t.cs_⟩
theorem Tri.nc {H H':Hp} {lE lC lS:Addr} {es cs:List Str} {ss:List V} (t:Tri H H' lE lC lS es cs ss) (cs2:List Str) {xs:List V} (h:xs=cs2.map V.str):Tri H (upd H' lC (.lst xs)) lE lC lS es cs2 ss:=by
 subst h
 exact ⟨fun x o n1 n2 n3 h=>by rw [upd_ne n2];exact t.fr x o n1 n2 n3 h,by rw [upd_ne t.ec];exact t.e,upd_same,by rw [upd_ne (Ne.symm t.cs_)];exact t.s,t.ec,t.es_,t.cs_⟩
theorem Tri.ns {H H':Hp} {lE lC lS:Addr} {es cs:List Str} {ss:List V} (t:Tri H H' lE lC lS es cs ss) (ss2:List V):Tri H (upd H' lS (.lst ss2)) lE lC lS es cs ss2:=
 ⟨fun x o n1 n2 n3 h=>by rw [upd_ne n3];exact t.fr x o n1 n2 n3 h,by rw [upd_ne t.es_];exact t.e,by rw [upd_ne t.cs_];exact t.c,upd_same,t.ec,t.es_,t.cs_⟩
theorem Tri.nw {H H':Hp} {lE lC lS p:Addr} {es cs:List Str} {ss:List V} {o:HO} (t:Tri H H' lE lC lS es cs ss) (h:H' p=none):Tri H (upd H' p o) lE lC lS es cs ss:=
 have S:=same_upd (o:=o) h
 ⟨fun x o n1 n2 n3 h=>S _ _ (t.fr x o n1 n2 n3 h),S _ _ t.e,S _ _ t.c,S _ _ t.s,t.ec,t.es_,t.cs_⟩
theorem Tri.to {H H1 H':Hp} {lE lC lS:Addr} {es cs es' cs':List Str} {ss ss':List V} (t:Tri H H1 lE lC lS es cs ss) (t':Tri H1 H' lE lC lS es' cs' ss'):Tri H H' lE lC lS es' cs' ss':=
 ⟨fun x o n1 n2 n3 h=>t'.fr x o n1 n2 n3 (t.fr x o n1 n2 n3 h),t'.e,t'.c,t'.s,t'.ec,t'.es_,t'.cs_⟩
theorem good_app {xs ys:List Str} (h:∀ z ∈ xs,Good z) (h2:∀ z ∈ ys,Good z):∀ z ∈ xs++ys,Good z:=fun z hz=>by
 rcases List.mem_append.mp hz with hz | hz
 ·exact h z hz
 ·exact h2 z hz
theorem good_one {a:Str} (h:Good a):∀ z ∈ [a],Good z:=fun z hz=>by rw [List.mem_singleton.mp hz];exact h
theorem good_two {a b:Str} (h:Good a) (h2:Good b):∀ z ∈ [a,b],Good z:=good_app (good_one h) (good_one h2)
theorem pss_as {X:Cx} {sts:List Stmt} {t:TS} (t':TS) (h:PSs X sts t) (hw:∀ D σ H,t' D σ H->t D σ H):PSs X sts t':=fun pins s σ H D I hh=>h pins s σ H D I (hw D σ H hh)
theorem ne_test {a b:Str} (h:(!decide (V.str a=V.str b))=true):a ≠ b:=fun e=>by
 rw [e,decide_eq_true rfl] at h
 exact Bool.false_ne_true h
theorem Tri.tup {H H3:Hp} {lE lC lS t:Addr} {es cs:List Str} {ss ss2:List V} {o:HO} (T:Tri H H3 lE lC lS es cs ss) (ht:H3 t=none):upd (upd H3 t o) lS (.lst ss2) t=some o:=by
 rw [upd_ne (fun z=>by rw [z,T.s] at ht;cases ht),upd_same]
def spSlip (K:PySem.W.Frag):Sp:=fun vs H Q _=>∃ (lE lC lS lW:Addr) (es cs:List Str) (ss:List V) (n:Int) (a b:Str),vs=[.ref lE,.ref lC,.ref lS,.int n,.ref lW]/\Tri H H lE lC lS es cs ss/\H lW=some (.lst [.str a,.str b])/\Good a/\Good b/\(∀ z ∈ es,Good z)/\(∀ z ∈ cs,Good z)/\es.length<=10000/\cs.length<=10000/\ss.length<=10000 ∧
 ∀ (H':Hp) (es' cs':List Str) (t:Addr) (st:Sk) (ws:List Str),Tri H H' lE lC lS es' cs' (ss++[.ref t])->H' t=some (.tup (stepV st))->okS st->(∃ m,es'=es++m)->after es' es.length cs.getLast? st=some (es'.length,ws)->cs'=cs++ws->(∀ z ∈ es',Good z)->(∀ z ∈ cs',Good z)->es'.length<=es.length+2->cs'.length<=cs.length+2->Q .non H'
theorem scSlip:FnScope ["elder","copy","steps","left","words","word","other","way"] ["elder","copy","steps","left","words"] (defScope sSlip):=⟨rfl,rfl,rfl,by decide +kernel,rfl,by decide +kernel,by decide +kernel⟩
theorem ok_slip {f:Addr} {fd:FuncData} (F:Fun K "_law_slip" "_law_slip" sSlip f fd):FnOk P w K mg base CX0 1 f fd ["elder","copy","steps","left","words"] (spSlip K):=by
 refine F.ok scSlip (fun vs H Q E h=>?_) (fun cdv A outer s H vs Q E hr h=>?_)
 ·obtain ⟨lE,lC,lS,lW,es,cs,ss,n,a,b,rfl,_⟩:=h
  rfl
 ·obtain ⟨lE,lC,lS,lW,es,cs,ss,n,a,b,rfl,T,hW,ga,gb,ge,gc,le,lc,ls,q⟩:=h
  have z1:(1:Nat)<=sizeLine:=few (by omega)
  have z2:(2:Nat)<=sizeLine:=few (by omega)
  have la:∀ (xs:List Str),xs.length<=20000->(xs.map V.str).length < sizeLine:=fun xs h=>by rw [List.length_map];exact fewer (by omega)
  have l2:∀ (xs:List Str),xs.length<=20000->(xs.map V.str).length+2<=sizeLine:=fun xs h=>by rw [List.length_map];exact few (by omega)
  have lss:ss.length < sizeLine:=fewer (by omega)
  let tG:TS:=fun D σ H1=>σ=[some (.ref lE),some (.ref lC),some (.ref lS),some (.int n),some (.ref lW),some (.str a),some (.str b),some (.int (n % 9))]/\Tri H H1 lE lC lS es cs ss/\∀ (H':Hp) (es' cs':List Str) (t:Addr) (st:Sk) (ws:List Str),Tri H H' lE lC lS es' cs' (ss++[.ref t])->H' t=some (.tup (stepV st))->okS st->(∃ m,es'=es++m)->after es' es.length cs.getLast? st=some (es'.length,ws)->cs'=cs++ws->(∀ z ∈ es',Good z)->(∀ z ∈ cs',Good z)->es'.length<=es.length+2->cs'.length<=cs.length+2->D.nx [some (.ref lE),some (.ref lC),some (.ref lS),some (.int n),some (.ref lW),some (.str a),some (.str b),some (.int (n % 9))] H'
  refine ⟨_,pss_cons (ps_set (i:=5) scSlip.nd rfl (Or.inl rfl) (pe_ix ix_list (pv 4) pe_int (fun _ _=>rfl)))
   (pss_cons (ps_set (i:=6) scSlip.nd rfl (Or.inl rfl) (pe_ix ix_list (pv 4) pe_int (fun _ _=>rfl)))
   (pss_cons (ps_set (i:=7) scSlip.nd rfl (Or.inl rfl) (pe_op op_mod (pv 3) pe_int))
   (pss_as tG (pss_one (ps_if (pw_and (pt_cmpR op_eq (pv 7) pe_int (nomark _)) (pw_and1 (pt_cmpR op_ne (pv 5) (pv 6) (nomark _)))).pt (pss_cons (ps_expr (pe_bm PySem.F.plainAttrs_list PySem.F.slot_list_append PySem.F.type_list_append mt_append (pv 0) (pa_cons (pv 5) pa_nil)))
   (pss_cons (ps_expr (pe_bm PySem.F.plainAttrs_list PySem.F.slot_list_append PySem.F.type_list_append mt_append (pv 1) (pa_cons (pv 6) pa_nil)))
   (pss_one (ps_expr (pe_bm PySem.F.plainAttrs_list PySem.F.slot_list_append PySem.F.type_list_append mt_append (pv 2) (pa_cons (pe_tup (pa_cons pe_str (pa_cons (pv 6) pa_nil))) pa_nil)))))) (pss_as tG (pss_one (ps_if (pt_cmpR op_eq (pv 7) pe_int (nomark _)) (pss_cons (ps_expr (pe_bm PySem.F.plainAttrs_list PySem.F.slot_list_append PySem.F.type_list_append mt_append (pv 0) (pa_cons (pv 5) pa_nil)))
   (pss_one (ps_expr (pe_bm PySem.F.plainAttrs_list PySem.F.slot_list_append PySem.F.type_list_append mt_append (pv 2) (pa_cons (pe_tup (pa_cons pe_str pa_nil)) pa_nil))))) (pss_as tG (pss_one (ps_if (pt_cmpR op_eq (pv 7) pe_int (nomark _)) (pss_cons (ps_expr (pe_bm PySem.F.plainAttrs_list PySem.F.slot_list_append PySem.F.type_list_append mt_append (pv 1) (pa_cons (pv 5) pa_nil)))
   (pss_one (ps_expr (pe_bm PySem.F.plainAttrs_list PySem.F.slot_list_append PySem.F.type_list_append mt_append (pv 2) (pa_cons (pe_tup (pa_cons pe_str (pa_cons (pv 5) pa_nil))) pa_nil))))) (pss_as tG (pss_one (ps_if (pw_and (pt_cmpR op_eq (pv 7) pe_int (nomark _)) (pw_and1 (pt_cmpR (op_neS hr.units) (pv 1) (pe_lst pa_nil) (nomark _)))).pt (pss_cons (ps_expr (pe_bm PySem.F.plainAttrs_list PySem.F.slot_list_append PySem.F.type_list_append mt_append (pv 1) (pa_cons (pe_ix ix_list (pv 1) (pe_un un_neg pe_int) (fun _ _=>rfl)) pa_nil)))
   (pss_one (ps_expr (pe_bm PySem.F.plainAttrs_list PySem.F.slot_list_append PySem.F.type_list_append mt_append (pv 2) (pa_cons (pe_tup (pa_cons pe_str pa_nil)) pa_nil))))) (pss_as tG (pss_one (ps_if (pw_and (pt_cmpR op_eq (pv 7) pe_int (nomark _)) (pw_and1 (pt_cmpR op_ne (pv 5) (pv 6) (nomark _)))).pt (pss_cons (ps_expr (pe_bm PySem.F.plainAttrs_list PySem.F.slot_list_extend PySem.F.type_list_extend mt_extend (pv 0) (pa_cons (pe_lst (pa_cons (pv 5) (pa_cons (pv 6) pa_nil))) pa_nil)))
   (pss_cons (ps_expr (pe_bm PySem.F.plainAttrs_list PySem.F.slot_list_extend PySem.F.type_list_extend mt_extend (pv 1) (pa_cons (pe_lst (pa_cons (pv 6) (pa_cons (pv 5) pa_nil))) pa_nil)))
   (pss_one (ps_expr (pe_bm PySem.F.plainAttrs_list PySem.F.slot_list_append PySem.F.type_list_append mt_append (pv 2) (pa_cons (pe_tup (pa_cons pe_str pa_nil)) pa_nil)))))) (pss_as tG (pss_cons (ps_expr (pe_bm PySem.F.plainAttrs_list PySem.F.slot_list_append PySem.F.type_list_append mt_append (pv 0) (pa_cons (pv 5) pa_nil)))
   (pss_cons (ps_expr (pe_bm PySem.F.plainAttrs_list PySem.F.slot_list_append PySem.F.type_list_append mt_append (pv 1) (pa_cons (pv 5) pa_nil)))
   (pss_one (ps_expr (pe_bm PySem.F.plainAttrs_list PySem.F.slot_list_append PySem.F.type_list_append mt_append (pv 2) (pa_cons (pe_tup (pa_cons pe_str pa_nil)) pa_nil)))))) (by
   rintro D σ H1 ⟨rfl,T1,fin⟩
   refine ⟨_,rfl,.inl ⟨rfl,_,SqL.of T1.e⟩,_,rfl,lE,_,_,rfl,rfl,T1.e,la es (by omega),?_⟩
   have T2:=T1.ne (es++[a]) (xs:=es.map V.str++[.str a]) (by rw [List.map_append];rfl)
   refine ⟨_,rfl,.inl ⟨rfl,_,SqL.of T2.c⟩,_,rfl,lC,_,_,rfl,rfl,T2.c,la cs (by omega),?_⟩
   have T3:=T2.nc (cs++[a]) (xs:=cs.map V.str++[.str a]) (by rw [List.map_append];rfl)
   refine ⟨_,rfl,.inl ⟨rfl,_,SqL.of T3.s⟩,z1,fun t ht=>⟨lS,_,_,rfl,rfl,(T3.nw ht).s,lss,?_⟩⟩
   exact fin _ (es++[a]) (cs++[a]) t .keep [a] ((T3.nw ht).ns _) (T3.tup ht) trivial ⟨[a],rfl⟩ (af_keep es a _) rfl (good_app ge (good_one ga)) (good_app gc (good_one ga)) (by rw [List.length_append];show _+1<=_;omega) (by rw [List.length_append];show _+1<=_;omega))))) (by
   rintro D σ H1 ⟨rfl,T1,fin⟩
   refine ⟨_,rfl,rfl,_,rfl,?_⟩
   refine ite2 (fun _=>?_) (fun _=>iteF ⟨rfl,T1,fin⟩)
   refine ⟨_,rfl,_,rfl,rfl,_,rfl,?_⟩
   refine ite2 (fun hab=>?_) (fun _=>⟨rfl,T1,fin⟩)
   refine ⟨_,rfl,.inl ⟨rfl,_,SqL.of T1.e⟩,_,rfl,_,rfl,z2,fun l1 hl1=>⟨lE,l1,_,_,rfl,rfl,(T1.nw hl1).e,upd_same,l2 es (by omega),?_⟩⟩
   have T2:=(T1.nw (o:=.lst [.str a,.str b]) hl1).ne (es++[a,b]) (xs:=es.map V.str++[.str a,.str b]) (by rw [List.map_append];rfl)
   refine ⟨_,rfl,.inl ⟨rfl,_,SqL.of T2.c⟩,_,rfl,_,rfl,z2,fun l3 hl3=>⟨lC,l3,_,_,rfl,rfl,(T2.nw hl3).c,upd_same,l2 cs (by omega),?_⟩⟩
   have T3:=(T2.nw (o:=.lst [.str b,.str a]) hl3).nc (cs++[b,a]) (xs:=cs.map V.str++[.str b,.str a]) (by rw [List.map_append];rfl)
   refine ⟨_,rfl,.inl ⟨rfl,_,SqL.of T3.s⟩,z1,fun t ht=>⟨lS,_,_,rfl,rfl,(T3.nw ht).s,lss,?_⟩⟩
   exact fin _ (es++[a,b]) (cs++[b,a]) t .swap [b,a] ((T3.nw ht).ns _) (T3.tup ht) trivial ⟨[a,b],rfl⟩ (af_swap es _ (ne_test hab)) rfl (good_app ge (good_two ga gb)) (good_app gc (good_two gb ga)) (by rw [List.length_append];show _+2<=_;omega) (by rw [List.length_append];show _+2<=_;omega))))) (by
   rintro D σ H1 ⟨rfl,T1,fin⟩
   refine ⟨_,rfl,rfl,_,rfl,?_⟩
   refine ite2 (fun _=>?_) (fun _=>iteF ⟨rfl,T1,fin⟩)
   refine ⟨_,rfl,Nat.zero_le _,fun l0 hl0=>?_⟩
   have T2:=T1.nw (o:=.lst []) hl0
   refine ⟨0,decide (cs=[]),by decide,EqS.strs (ys:=[]) (.inl ⟨SqL.of T2.c,SqL.of upd_same⟩),_,rfl,?_⟩
   by_cases h0:cs=[]
   ·rw [decide_eq_true h0]
    exact iteF ⟨rfl,T2,fin⟩
   ·rw [decide_eq_false h0]
    obtain ⟨z,ez,az⟩:=last_at (cp:=cs) (by rcases cs with _ | ⟨x,r⟩;exact absurd rfl h0;simp)
    have gz:Good z:=gc z (List.mem_of_getLast? ez)
    refine iteT ⟨_,rfl,.inl ⟨rfl,_,SqL.of T2.c⟩,_,rfl,_,rfl,lC,_,_,_,rfl,rfl,SqL.of T2.c,az,lC,_,_,rfl,rfl,T2.c,la cs (by omega),?_⟩
    have T3:=T2.nc (cs++[z]) (xs:=cs.map V.str++[.str z]) (by rw [List.map_append];rfl)
    refine ⟨_,rfl,.inl ⟨rfl,_,SqL.of T3.s⟩,z1,fun t ht=>⟨lS,_,_,rfl,rfl,(T3.nw ht).s,lss,?_⟩⟩
    exact fin _ es (cs++[z]) t .twice [z] ((T3.nw ht).ns _) (T3.tup ht) trivial ⟨[],(List.append_nil es).symm⟩ (by rw [ez];exact af_twice es z) rfl ge (good_app gc (good_one gz)) (by omega) (by rw [List.length_append];show _+1<=_;omega))))) (by
   rintro D σ H1 ⟨rfl,T1,fin⟩
   refine ⟨_,rfl,rfl,_,rfl,?_⟩
   refine ite2 (fun _=>?_) (fun _=>⟨rfl,T1,fin⟩)
   refine ⟨_,rfl,.inl ⟨rfl,_,SqL.of T1.c⟩,_,rfl,lC,_,_,rfl,rfl,T1.c,la cs (by omega),?_⟩
   have T3:=T1.nc (cs++[a]) (xs:=cs.map V.str++[.str a]) (by rw [List.map_append];rfl)
   refine ⟨_,rfl,.inl ⟨rfl,_,SqL.of T3.s⟩,_,rfl,z2,fun t ht=>⟨lS,_,_,rfl,rfl,(T3.nw ht).s,lss,?_⟩⟩
   exact fin _ es (cs++[a]) t (.add a) [a] ((T3.nw ht).ns _) (T3.tup ht) ga ⟨[],(List.append_nil es).symm⟩ (af_add es a _) rfl ge (good_app gc (good_one ga)) (by omega) (by rw [List.length_append];show _+1<=_;omega))))) (by
   rintro D σ H1 ⟨rfl,T1,fin⟩
   refine ⟨_,rfl,rfl,_,rfl,?_⟩
   refine ite2 (fun _=>?_) (fun _=>⟨rfl,T1,fin⟩)
   refine ⟨_,rfl,.inl ⟨rfl,_,SqL.of T1.e⟩,_,rfl,lE,_,_,rfl,rfl,T1.e,la es (by omega),?_⟩
   have T3:=T1.ne (es++[a]) (xs:=es.map V.str++[.str a]) (by rw [List.map_append];rfl)
   refine ⟨_,rfl,.inl ⟨rfl,_,SqL.of T3.s⟩,z1,fun t ht=>⟨lS,_,_,rfl,rfl,(T3.nw ht).s,lss,?_⟩⟩
   exact fin _ (es++[a]) cs t .lose [] ((T3.nw ht).ns _) (T3.tup ht) trivial ⟨[a],rfl⟩ (af_lose es a _) (List.append_nil cs).symm (good_app ge (good_one ga)) gc (by rw [List.length_append];show _+1<=_;omega) (by omega))))) (by
   rintro D σ H1 ⟨rfl,T1,fin⟩
   refine ⟨_,rfl,rfl,_,rfl,?_⟩
   refine ite2 (fun _=>?_) (fun _=>iteF ⟨rfl,T1,fin⟩)
   refine ⟨_,rfl,_,rfl,rfl,_,rfl,?_⟩
   refine ite2 (fun hab=>?_) (fun _=>⟨rfl,T1,fin⟩)
   refine ⟨_,rfl,.inl ⟨rfl,_,SqL.of T1.e⟩,_,rfl,lE,_,_,rfl,rfl,T1.e,la es (by omega),?_⟩
   have T2:=T1.ne (es++[a]) (xs:=es.map V.str++[.str a]) (by rw [List.map_append];rfl)
   refine ⟨_,rfl,.inl ⟨rfl,_,SqL.of T2.c⟩,_,rfl,lC,_,_,rfl,rfl,T2.c,la cs (by omega),?_⟩
   have T3:=T2.nc (cs++[b]) (xs:=cs.map V.str++[.str b]) (by rw [List.map_append];rfl)
   refine ⟨_,rfl,.inl ⟨rfl,_,SqL.of T3.s⟩,_,rfl,z2,fun t ht=>⟨lS,_,_,rfl,rfl,(T3.nw ht).s,lss,?_⟩⟩
   exact fin _ (es++[a]) (cs++[b]) t (.turn b) [b] ((T3.nw ht).ns _) (T3.tup ht) gb ⟨[a],rfl⟩ (af_turn es _ (ne_test hab)) rfl (good_app ge (good_one ga)) (good_app gc (good_one gb)) (by rw [List.length_append];show _+1<=_;omega) (by rw [List.length_append];show _+1<=_;omega))))),?_⟩
  refine ⟨_,rfl,lW,_,_,_,rfl,rfl,SqL.of hW,rfl,?_⟩
  refine ⟨_,rfl,lW,_,_,_,rfl,rfl,SqL.of hW,rfl,?_⟩
  refine ⟨_,rfl,_,_,rfl,rfl,(by show (0:Int) < 9;decide),?_⟩
  exact ⟨rfl,T,q⟩
theorem Tri.sm {H H1 H2:Hp} {lE lC lS:Addr} {es cs:List Str} {ss:List V} (t:Tri H H1 lE lC lS es cs ss) (S:Same H1 H2):Tri H H2 lE lC lS es cs ss:=
 ⟨fun x o n1 n2 n3 h=>S _ _ (t.fr x o n1 n2 n3 h),S _ _ t.e,S _ _ t.c,S _ _ t.s,t.ec,t.es_,t.cs_⟩
theorem Tri.self {H H1:Hp} {lE lC lS:Addr} {es cs:List Str} {ss:List V} (t:Tri H H1 lE lC lS es cs ss):Tri H1 H1 lE lC lS es cs ss:=⟨fun _ _ _ _ _ h=>h,t.e,t.c,t.s,t.ec,t.es_,t.cs_⟩
theorem Tri.same {H H0 H2:Hp} {lE lC lS:Addr} {es cs:List Str} {ss:List V} (t:Tri H0 H2 lE lC lS es cs ss) (S:Same H H0) (h1:H lE=none) (h2:H lC=none) (h3:H lS=none):Same H H2:=fun x o h=>
 t.fr x o (fun e=>by rw [e,h1] at h;cases h) (fun e=>by rw [e,h2] at h;cases h) (fun e=>by rw [e,h3] at h;cases h) (S x o h)
def Wk (H:Hp) (es cs:List Str) (ss:List V):Prop:=∃ (ts:List Addr) (sts:List Sk) (pl:List Nat),ss=ts.map V.ref/\TupsAt H ts sts/\walk es sts (0,[],[])=some (es.length,cs,pl)
theorem Wk.mono {H H':Hp} {es cs:List Str} {ss:List V} (h:Wk H es cs ss) (m:∀ t xs,H t=some (.tup xs)->H' t=some (.tup xs)):Wk H' es cs ss:=by
 obtain ⟨ts,sts,pl,e,hT,hw⟩:=h
 exact ⟨ts,sts,pl,e,⟨hT.len,fun i t st e1 e2=>⟨m _ _ (hT.item i t st e1 e2).1,(hT.item i t st e1 e2).2⟩⟩,hw⟩
theorem Wk.same {H H':Hp} {es cs:List Str} {ss:List V} (h:Wk H es cs ss) (S:Same H H'):Wk H' es cs ss:=h.mono fun _ _ e=>S _ _ e
theorem Wk.step {H H':Hp} {es cs es' cs' ws:List Str} {ss:List V} {t:Addr} {st:Sk} (h:Wk H es cs ss) (m:∀ t xs,H t=some (.tup xs)->H' t=some (.tup xs)) (ht:H' t=some (.tup (stepV st))) (ho:okS st) (hm:∃ m,es'=es++m) (ha:after es' es.length cs.getLast? st=some (es'.length,ws)) (hc:cs'=cs++ws):Wk H' es' cs' (ss++[.ref t]):=by
 obtain ⟨ts,sts,pl,rfl,hT,hw⟩:=h.mono m
 obtain ⟨mm,rfl⟩:=hm
 subst hc
 exact ⟨ts++[t],sts++[st],pl++[es.length],by rw [List.map_append];rfl,hT.app (TupsAt.one ht ho),walk_snoc (walk_more mm sts _ hw) ha⟩
theorem Tri.tups {H0 H1 H':Hp} {lE lC lS:Addr} {es cs es' cs':List Str} {ss ss':List V} (T:Tri H0 H1 lE lC lS es cs ss) (T':Tri H1 H' lE lC lS es' cs' ss'):∀ t xs,H1 t=some (.tup xs)->H' t=some (.tup xs):=fun t xs h=>
 T'.fr t _ (fun z=>by rw [z,T.e] at h;cases h) (fun z=>by rw [z,T.c] at h;cases h) (fun z=>by rw [z,T.s] at h;cases h) h
def spPair (K:PySem.W.Frag):Sp:=fun vs H Q _=>∃ (lc:Addr) (ns:List Int) (a b:Int),vs=[.ref lc,.int a,.int b]/\SqL K H lc (ns.map V.int)/\(∀ m ∈ ns,Builtin.Int.intBits m<=1048576)/\ns.length<=63 ∧
 0<=b/\∀ (H':Hp) (r e c s:Addr) (es cs:List Str) (ss:List V),Same H H'->H' r=some (.tup [.ref e,.ref c,.ref s])->H' e=some (.tup (es.map V.str))->H' c=some (.tup (cs.map V.str))->(∀ z ∈ es,Good z)->(∀ z ∈ cs,Good z)->H' s=some (.tup ss)->Wk H' es cs ss->((es.length:Nat):Int)<=b+1+2 * ((ns.length:Nat):Int)->cs.length<=2 * ns.length->ss.length<=ns.length->Q (.ref r) H'
theorem scPair:FnScope ["cells","seed","most","elder","copy","steps","cell","left","lost","words"] ["cells","seed","most"] (defScope sPair):=⟨rfl,rfl,rfl,by decide +kernel,rfl,by decide +kernel,by decide +kernel⟩
theorem int_at {ns:List Int} {i:Nat} {y:V} (hi:(ns.map V.int)[i]?=some y):∃ n,ns[i]?=some n/\y=.int n:=by
 rw [List.getElem?_map] at hi
 cases e:ns[i]? with
 | none=>rw [e] at hi;cases hi
 | some t=>rw [e] at hi;exact ⟨t,rfl,(Option.some.inj hi).symm⟩
theorem ok_pair {f gS gE gW gL:Addr} {fd dS dE dW dL:FuncData} (F:Fun K "_law_pair" "_law_pair" sPair f fd) (DS:Dfn K mg "_law_stir" sStir gS dS ["cell"]) (DE:Dfn K mg "_law_eye" sEye gE dE ["elder","left","seed","most"]) (DW:Dfn K mg "_law_word" sWord gW dW ["seed","code"]) (DL:Dfn K mg "_law_slip" sSlip gL dL ["elder","copy","steps","left","words"])
  (mlen:mg "len" = none) (mrange:mg "range" = none) (mmax:mg "max" = none) (mmin:mg "min" = none) (mtup:mg "tuple" = none):FnOk P w K mg base CX0 3 f fd ["cells","seed","most"] (spPair K):=by
 have GS:FnOk P w K mg base CX0 2 gS dS ["cell"] spStir:=(ok_stir DS.fn).mono (by decide)
 have GE:FnOk P w K mg base CX0 2 gE dE ["elder","left","seed","most"] (spEye K):=ok_eye DE.fn DW mlen mrange mmax mmin
 have GW:FnOk P w K mg base CX0 2 gW dW ["seed","code"] spWord:=(ok_word DW.fn mrange).mono (by decide)
 have GL:FnOk P w K mg base CX0 2 gL dL ["elder","copy","steps","left","words"] (spSlip K):=(ok_slip DL.fn).mono (by decide)
 refine F.ok scPair (fun vs H Q E h=>?_) (fun cdv A outer s H vs Q E hr h=>?_)
 ·obtain ⟨lc,ns,a,b,rfl,_⟩:=h
  rfl
 ·obtain ⟨lc,ns,a,b,rfl,hc,hb,hn,hb0,q⟩:=h
  let tG:TS:=fun D σ H1=>∃ (lE lC lS:Addr) (es cs:List Str) (ss:List V) (m l:Int) (v8 v9:Option V),σ=[some (.ref lc),some (.int a),some (.int b),some (.ref lE),some (.ref lC),some (.ref lS),some (.int m),some (.int l),v8,v9]/\Tri H1 H1 lE lC lS es cs ss/\(∀ z ∈ es,Good z)/\(∀ z ∈ cs,Good z)/\es.length<=9000/\cs.length<=9000/\ss.length<=9000 ∧
   ∀ (H':Hp) (es' cs':List Str) (t:Addr) (st:Sk) (ws:List Str) (v9':Option V),Tri H1 H' lE lC lS es' cs' (ss++[.ref t])->H' t=some (.tup (stepV st))->okS st->(∃ m,es'=es++m)->after es' es.length cs.getLast? st=some (es'.length,ws)->cs'=cs++ws->(∀ z ∈ es',Good z)->(∀ z ∈ cs',Good z)->es'.length<=es.length+2->cs'.length<=cs.length+2->D.nx [some (.ref lc),some (.int a),some (.int b),some (.ref lE),some (.ref lC),some (.ref lS),some (.int m),some (.int l),v8,v9'] H'
  refine ⟨_,pss_cons (ps_set (i:=3) scPair.nd rfl (Or.inl rfl) (pe_lst pa_nil))
   (pss_cons (ps_set (i:=4) scPair.nd rfl (Or.inl rfl) (pe_lst pa_nil))
   (pss_cons (ps_set (i:=5) scPair.nd rfl (Or.inl rfl) (pe_lst pa_nil))
   (pss_cons (ps_for PassesOwn.never rfl (pi_list (pv 0)) (pg_name (i:=6) scPair.nd rfl (Or.inl rfl)) (pss_cons (ps_set (i:=7) scPair.nd rfl (Or.inl rfl) (pe_call GS hr (by rfl) DS.at_ DS.fn.kp DS.bn .nil pass0 (pa_cons (pv 6) pa_nil)))
    (pss_one (ps_if (pw_and (pt_cmpR op_eq (pe_op op_mod (pv 7) pe_int) pe_int (nomark _)) (pw_and1 (pt_cmpR (op_neS hr.units) (pv 3) (pe_lst pa_nil) (nomark _)))).pt (pss_cons (ps_set (i:=8) scPair.nd rfl (Or.inl rfl) (pe_call GE hr (by rfl) DE.at_ DE.fn.kp DE.bn .nil pass0 (pa_cons (pv 3) (pa_cons (pv 7) (pa_cons (pv 1) (pa_cons (pv 2) pa_nil))))))
   (pss_cons (ps_expr (pe_bm PySem.F.plainAttrs_list PySem.F.slot_list_extend PySem.F.type_list_extend mt_extend (pv 3) (pa_cons (pv 8) pa_nil)))
   (pss_one (ps_expr (pe_bm PySem.F.plainAttrs_list PySem.F.slot_list_append PySem.F.type_list_append mt_append (pv 5) (pa_cons (pe_tup (pa_cons pe_str (pa_cons (pe_callB call_len_seq (by rfl) mlen PySem.boot_len (pa_cons (pv 8) pa_nil)) pa_nil))) pa_nil)))))) (pss_as tG (pss_cons (ps_set (i:=9) scPair.nd rfl (Or.inl rfl) (pe_lst (pa_cons (pe_call GW hr (by rfl) DW.at_ DW.fn.kp DW.bn .nil pass0 (pa_cons (pv 1) (pa_cons (pe_op op_mod (pe_op op_fdiv (pv 7) pe_int) pe_int) pa_nil))) (pa_cons (pe_call GW hr (by rfl) DW.at_ DW.fn.kp DW.bn .nil pass0 (pa_cons (pv 1) (pa_cons (pe_op op_mod (pe_op op_fdiv (pv 7) pe_int) pe_int) pa_nil))) pa_nil)))) (pss_one (ps_expr (pe_call GL hr (by rfl) DL.at_ DL.fn.kp DL.bn .nil pass0 (pa_cons (pv 3) (pa_cons (pv 4) (pa_cons (pv 5) (pa_cons (pv 7) (pa_cons (pv 9) pa_nil))))))))) (by
   rintro D σ H1 ⟨lE,lC,lS,es,cs,ss,m,l,v8,v9,rfl,T,ge,gc,le,lcl,lsl,fin⟩
   refine ⟨_,rfl,_,rfl,_,_,rfl,rfl,⟨by decide,by decide⟩,_,_,rfl,rfl,(by show (0:Int) < 10;decide),_,_,rfl,fun x hx=>?_⟩
   refine ⟨_,rfl,_,rfl,_,_,rfl,rfl,⟨by decide,by decide⟩,_,_,rfl,rfl,(by show (0:Int) < 10;decide),_,_,rfl,fun y hy=>?_⟩
   refine ⟨few (by show 2<=_;omega),fun lw hlw=>?_⟩
   have Tw:=T.nw (o:=.lst [.str x,.str y]) hlw
   refine ⟨_,rfl,_,rfl,_,rfl,_,rfl,_,rfl,lE,lC,lS,lw,es,cs,ss,_,x,y,rfl,Tw.self,upd_same,hx,hy,ge,gc,by omega,by omega,by omega,fun H' es' cs' t st ws T' ht' ho' hm' ha' hc' ge' gc' l1 l2=>?_⟩
   exact fin H' es' cs' t st ws _ (Tw.to T') ht' ho' hm' ha' hc' ge' gc' l1 l2))))))
   (pss_one (ps_ret (pe_tup (pa_cons (pe_callTy call_tuple_of (by rfl) mtup boot_tuple (pa_cons (pv 3) pa_nil)) (pa_cons (pe_callTy call_tuple_of (by rfl) mtup boot_tuple (pa_cons (pv 4) pa_nil)) (pa_cons (pe_callTy call_tuple_of (by rfl) mtup boot_tuple (pa_cons (pv 5) pa_nil)) pa_nil))))))))),?_⟩
  refine ⟨Nat.zero_le _,fun lE hE=>?_⟩
  refine ⟨Nat.zero_le _,fun lC hC=>?_⟩
  refine ⟨Nat.zero_le _,fun lS hS=>?_⟩
  obtain ⟨nCE,hC'⟩:=freeNe hC
  obtain ⟨nSC,hS'⟩:=freeNe hS
  obtain ⟨nSE,hS''⟩:=freeNe hS'
  have S0:=((same_upd (o:=.lst []) hE).trans (same_upd (o:=.lst []) hC)).trans (same_upd (o:=.lst []) hS)
  have T0:Tri (upd (upd (upd H lE (.lst [])) lC (.lst [])) lS (.lst [])) (upd (upd (upd H lE (.lst [])) lC (.lst [])) lS (.lst [])) lE lC lS [] [] []:=
   ⟨fun _ _ _ _ _ h=>h,same_upd hS _ _ (same_upd hC _ _ upd_same),same_upd hS _ _ upd_same,upd_same,Ne.symm nCE,Ne.symm nSE,Ne.symm nSC⟩
  generalize hH0:upd (upd (upd H lE (.lst [])) lC (.lst [])) lS (.lst [])=H0 at S0 T0
  have sm:∀ {H2:Hp} {es cs:List Str} {ss:List V},Tri H0 H2 lE lC lS es cs ss->Same H H2:=fun t=>t.same S0 hE hC' hS''
  refine ⟨_,rfl,lc,rfl,⟨_,S0.seq hc⟩,for_list (K:=K) (a:=lc) (xs:=ns.map V.int) (fun i σ H2=>∃ (es cs:List Str) (ss:List V) (v6 v7 v8 v9:Option V),σ=[some (.ref lc),some (.int a),some (.int b),some (.ref lE),some (.ref lC),some (.ref lS),v6,v7,v8,v9]/\Tri H0 H2 lE lC lS es cs ss/\(∀ z ∈ es,Good z)/\(∀ z ∈ cs,Good z)/\((es.length:Nat):Int)<=b+1+2 * ((i:Nat):Int)/\es.length<=12 * i/\cs.length<=2 * i/\ss.length<=i/\Wk H2 es cs ss)
   ⟨[],[],[],none,none,none,none,rfl,T0,(fun _ z=>nomatch z),(fun _ z=>nomatch z),by show (0:Int)<=b+1+2 * 0;omega,Nat.le_refl _,Nat.le_refl _,Nat.le_refl _,⟨[],[],[],rfl,TupsAt.nil,rfl⟩⟩ (fun i σ H2 _ ⟨_,_,_,_,_,_,_,_,T,_⟩=>(sm T).seq hc) ?_ ?_⟩
  ·rintro i y σ H2 hi ⟨es,cs,ss,v6,v7,v8,v9,rfl,T,ge,gc,lb,le,lcl,lsl,wk⟩
   obtain ⟨n,hni,rfl⟩:=int_at hi
   have hil:i < ns.length:=(List.getElem?_eq_some_iff.mp hni).1
   refine ⟨_,rfl,n,rfl,hb n (List.mem_of_getElem? hni),fun l=>?_⟩
   have other:∀ {H3:Hp},Tri H0 H3 lE lC lS es cs ss->Wk H3 es cs ss->∃ (lE' lC' lS':Addr) (es0 cs0:List Str) (ss0:List V) (m l':Int) (v8' v9':Option V),[some (V.ref lc),some (V.int a),some (V.int b),some (V.ref lE),some (V.ref lC),some (V.ref lS),some (V.int n),some (V.int l),v8,v9]=[some (.ref lc),some (.int a),some (.int b),some (.ref lE'),some (.ref lC'),some (.ref lS'),some (.int m),some (.int l'),v8',v9']/\Tri H3 H3 lE' lC' lS' es0 cs0 ss0/\(∀ z ∈ es0,Good z)/\(∀ z ∈ cs0,Good z)/\es0.length<=9000/\cs0.length<=9000/\ss0.length<=9000 ∧
     ∀ (H':Hp) (es' cs':List Str) (t:Addr) (st:Sk) (ws:List Str) (v9'':Option V),Tri H3 H' lE' lC' lS' es' cs' (ss0++[.ref t])->H' t=some (.tup (stepV st))->okS st->(∃ m,es'=es0++m)->after es' es0.length cs0.getLast? st=some (es'.length,ws)->cs'=cs0++ws->(∀ z ∈ es',Good z)->(∀ z ∈ cs',Good z)->es'.length<=es0.length+2->cs'.length<=cs0.length+2 →
      ∃ (es1 cs1:List Str) (ss1:List V) (v6 v7 v8 v9:Option V),[some (V.ref lc),some (V.int a),some (V.int b),some (V.ref lE'),some (V.ref lC'),some (V.ref lS'),some (V.int m),some (V.int l'),v8',v9'']=[some (.ref lc),some (.int a),some (.int b),some (.ref lE),some (.ref lC),some (.ref lS),v6,v7,v8,v9]/\Tri H0 H' lE lC lS es1 cs1 ss1/\(∀ z ∈ es1,Good z)/\(∀ z ∈ cs1,Good z)/\((es1.length:Nat):Int)<=b+1+2 * (((i+1:Nat)):Int)/\es1.length<=12 * (i+1)/\cs1.length<=2 * (i+1)/\ss1.length<=i+1/\Wk H' es1 cs1 ss1:=fun {H3} T3 wk3=>
    ⟨lE,lC,lS,es,cs,ss,n,l,v8,v9,rfl,T3.self,ge,gc,by omega,by omega,by omega,fun H' es' cs' t st ws v9'' T' ht' ho' hm' ha' hc' ge' gc' l1 l2=>⟨es',cs',ss++[.ref t],_,_,_,_,rfl,T3.to T',ge',gc',by omega,by omega,by omega,by rw [List.length_append];show _+1<=_;omega,wk3.step (T3.tups T') ht' ho' hm' ha' hc'⟩⟩
   refine ⟨_,rfl,_,_,rfl,rfl,(by show (0:Int) < 9;decide),rfl,_,rfl,?_⟩
   refine ite2 (fun _=>?_) (fun _=>iteF (other T wk))
   refine ⟨_,rfl,Nat.zero_le _,fun l0 hl0=>?_⟩
   have T2:=T.nw (o:=.lst []) hl0
   refine ⟨0,decide (es=[]),by decide,EqS.strs (ys:=[]) (.inl ⟨SqL.of T2.e,SqL.of upd_same⟩),_,rfl,?_⟩
   by_cases h0:es=[]
   ·rw [decide_eq_true h0]
    exact iteF (other T2 (wk.same (same_upd hl0)))
   ·rw [decide_eq_false h0]
    refine iteT ⟨_,rfl,_,rfl,_,rfl,_,rfl,lE,es,l,a,b,rfl,T2.e,h0,ge,by omega,fun H3 lw ws S3 hlwn hlw gw w1 w2 hvz hlen=>?_⟩
    obtain ⟨vs,z,ews,ez⟩:=hvz
    have T3:=T2.sm S3
    refine ⟨_,rfl,.inl ⟨rfl,_,SqL.of T3.e⟩,_,rfl,lE,lw,_,_,rfl,rfl,T3.e,hlw,(by rw [List.length_map,List.length_map];exact few (by omega)),?_⟩
    have T4:=T3.ne (es++ws) (xs:=es.map V.str++ws.map V.str) (by rw [List.map_append])
    have nw:lw ≠ lE:=fun e=>by rw [e,T2.e] at hlwn;cases hlwn
    have hlw4:upd H3 lE (.lst (es.map V.str++ws.map V.str)) lw=some (.lst (ws.map V.str)):=by rw [upd_ne nw];exact hlw
    refine ⟨_,rfl,.inl ⟨rfl,_,SqL.of T4.s⟩,_,rfl,lw,_,rfl,.inl (SqL.of hlw4),few (by show 2<=_;omega),fun t ht=>⟨lS,_,_,rfl,rfl,(T4.nw ht).s,fewer (by omega),?_⟩⟩
    subst ews
    have hwl:((vs++[z]).map V.str).length=(vs++[z]).length:=List.length_map ..
    rw [hwl]
    have T5:=(T4.nw (o:=.tup [V.str (Str.ofString "skip"),V.int (((vs++[z]).length:Nat):Int)]) ht).ns (ss++[.ref t])
    refine ⟨es++(vs++[z]),cs,ss++[.ref t],_,_,_,_,rfl,T5,good_app ge gw,gc,by rw [List.length_append];omega,by rw [List.length_append];omega,by omega,by rw [List.length_append];show _+1<=_;omega,?_⟩
    exact (wk.same ((same_upd hl0).trans S3)).step (st:=.skip (vs++[z]).length) (T3.self.tups ((T3.self.ne (es++(vs++[z])) (xs:=es.map V.str++(vs++[z]).map V.str) (List.map_append ..).symm).nw (o:=.tup [V.str (Str.ofString "skip"),V.int (((vs++[z]).length:Nat):Int)]) ht |>.ns (ss++[.ref t]))) (T4.tup (o:=.tup [V.str (Str.ofString "skip"),V.int (((vs++[z]).length:Nat):Int)]) ht) (show okS (.skip (vs++[z]).length) from ⟨w1,by omega⟩) ⟨_,rfl⟩ (af_skip es vs _ ez) (List.append_nil cs).symm
  ·rintro σ H2 ⟨es,cs,ss,v6,v7,v8,v9,rfl,T,ge,gc,lb,le,lcl,lsl,wk⟩
   refine ⟨_,rfl,lE,_,rfl,.inl ⟨SqL.of T.e,fun e he=>?_⟩⟩
   have S1:=same_upd (o:=.tup (es.map V.str)) he
   refine ⟨_,rfl,lC,_,rfl,.inl ⟨SqL.of (S1 _ _ T.c),fun c hc'=>?_⟩⟩
   have S2:=same_upd (o:=.tup (cs.map V.str)) hc'
   refine ⟨_,rfl,lS,_,rfl,.inl ⟨SqL.of (S2 _ _ (S1 _ _ T.s)),fun s' hs'=>?_⟩⟩
   have S3:=same_upd (o:=.tup ss) hs'
   refine ⟨few (by show 3<=_;omega),fun r hr'=>?_⟩
   have S4:=same_upd (o:=.tup [.ref e,.ref c,.ref s']) hr'
   rw [List.length_map] at lb lcl lsl
   exact q _ r e c s' es cs ss (((((sm T).trans S1).trans S2).trans S3).trans S4) upd_same (S4 _ _ (S3 _ _ (S2 _ _ upd_same))) (S4 _ _ (S3 _ _ upd_same)) ge gc (S4 _ _ upd_same) (wk.same (((S1.trans S2).trans S3).trans S4)) lb lcl lsl
def Pair4 (H:Hp) (a:Addr):Prop:=∃ (e c s:Addr) (n:Int) (es cs:List Str) (ss:List V),H a=some (.tup [.ref e,.ref c,.ref s,.int n])/\H e=some (.tup (es.map V.str))/\H c=some (.tup (cs.map V.str))/\H s=some (.tup ss)/\Wk H es cs ss/\(∀ z ∈ es,Good z)/\(∀ z ∈ cs,Good z)/\es.length<=40/\cs.length<=40/\ss.length<=63
theorem Pair4.to {H H':Hp} {a:Addr} (h:Pair4 H a) (m:∀ t xs,H t=some (.tup xs)->H' t=some (.tup xs)):Pair4 H' a:=by
 obtain ⟨e,c,s,n,es,cs,ss,h1,h2,h3,h4,h5,h6⟩:=h
 exact ⟨e,c,s,n,es,cs,ss,m _ _ h1,m _ _ h2,m _ _ h3,m _ _ h4,h5.mono m,h6⟩
theorem Pair4.mono {H H':Hp} {a:Addr} (h:Pair4 H a) (S:Same H H'):Pair4 H' a:=h.to fun _ _ e=>S _ _ e
theorem Pair4.set {H:Hp} {a l:Addr} {ys:List V} {o:HO} (h:Pair4 H a) (hl:H l=some (.lst ys)):Pair4 (upd H l o) a:=h.to fun t xs e=>by rw [upd_ne (fun z=>by rw [z,hl] at e;cases e)];exact e
theorem sqT_l {H:Hp} {a l:Addr} {xs ys:List V} {o:HO} (h:SqT K H a xs) (hl:H l=some (.lst ys)):SqT K (upd H l o) a xs:=by
 rcases h with (h | ⟨o',h⟩) | h
 ·have n:a ≠ l:=fun e=>by rw [e,hl] at h;cases h
  exact .inl (.inl (by rw [upd_ne n];exact h))
 ·have n:a ≠ l:=fun e=>by rw [e,hl] at h;cases h
  exact .inl (.inr ⟨o',by rw [upd_ne n];exact h⟩)
 ·exact .inr h
theorem cut_len (xs:List V) (k m:Nat):(cutV xs (some ((k:Nat):Int)) (some (((k:Nat):Int)+((m:Nat):Int)))).length<=m:=by
 rw [show ((k:Nat):Int)+((m:Nat):Int)=((k+m:Nat):Int) by omega]
 unfold cutV
 rw [HT.sIx_nat,HT.sIx_nat,List.length_take]
 omega
theorem rng_facts:∀ n,n < 64->∀ m,m < 8->0 < m->Builtin.Range.small 0 ((n:Nat):Int) ((m:Nat):Int)=true/\Builtin.Range.rangeSize 0 ((n:Nat):Int) ((m:Nat):Int)=(((n+m - 1) / m:Nat):Int):=by decide +kernel
def spMP (K:PySem.W.Frag):Sp:=fun vs H Q _=>∃ (a:Addr) (ns:List Int) (m:Nat),vs=[.ref a,.int (m:Nat)]/\SqL K H a (ns.map V.int)/\(∀ n ∈ ns,Builtin.Int.intBits n<=1048576)/\ns.length<=63/\m=4 ∧
 ∀ (H':Hp) (l:Addr) (as:List Addr),Same H H'->H' l=some (.lst (as.map V.ref))->(∀ x ∈ as,Pair4 H' x)->as.length<=100->Q (.ref l) H'
theorem scMP:FnScope ["script","many","seed","cells","rows","k","pair"] ["script","many"] (defScope sMP):=⟨rfl,rfl,rfl,by decide +kernel,rfl,by decide +kernel,by decide +kernel⟩
theorem ok_mp {f gC gS gN gP:Addr} {fd dC dS dN dP:FuncData} (F:Fun K "_law_made_pairs" "_law_made_pairs" sMP f fd) (DC:Dfn K mg "_law_cell_at" sCell gC dC ["script","k"]) (DS:Dfn K mg "_law_stir" sStir gS dS ["cell"]) (DN:Dfn K mg "_law_next" sNext gN dN ["left"]) (DP:Dfn K mg "_law_pair" sPair gP dP ["cells","seed","most"]) (GP:FnOk P w K mg base CX0 3 gP dP ["cells","seed","most"] (spPair K))
  (mlen:mg "len" = none) (mrange:mg "range" = none):FnOk P w K mg base CX0 4 f fd ["script","many"] (spMP K):=by
 have GC:FnOk P w K mg base CX0 3 gC dC ["script","k"] (spCell K):=(ok_cell DC.fn mlen).mono (by decide)
 have GS:FnOk P w K mg base CX0 3 gS dS ["cell"] spStirB:=(ok_stirB DS.fn).mono (by decide)
 have GN:FnOk P w K mg base CX0 3 gN dN ["left"] spStirB:=(ok_next DN.fn).mono (by decide)
 refine F.ok scMP (fun vs H Q E h=>?_) (fun cdv A outer s H vs Q E hr h=>?_)
 ·obtain ⟨a,ns,m,rfl,_⟩:=h
  rfl
 ·obtain ⟨a,ns,m,rfl,hS,hb,hn,hm,q⟩:=h
  refine ⟨_,pss_cons (ps_set (i:=2) scMP.nd rfl (Or.inl rfl) (pe_call GS hr (by rfl) DS.at_ DS.fn.kp DS.bn .nil pass0 (pa_cons (pe_call GC hr (by rfl) DC.at_ DC.fn.kp DC.bn .nil pass0 (pa_cons (pv 0) (pa_cons pe_int pa_nil))) pa_nil)))
   (pss_cons (ps_set (i:=3) scMP.nd rfl (Or.inl rfl) (pe_slice sl_lst (pv 0) (po_some pe_int) po_none))
   (pss_cons (ps_set (i:=4) scMP.nd rfl (Or.inl rfl) (pe_lst (pa_cons (pe_tup (pa_cons (pe_tup pa_nil) (pa_cons (pe_tup pa_nil) (pa_cons (pe_tup pa_nil) (pa_cons pe_int pa_nil))))) pa_nil)))
   (pss_cons (ps_for PassesOwn.never rfl (pi_range3 (by rfl) mrange (pa_cons pe_int (pa_cons (pe_callB call_len_seq (by rfl) mlen PySem.boot_len (pa_cons (pv 3) pa_nil)) (pa_cons (pv 1) pa_nil)))) (pg_name (i:=5) scMP.nd rfl (Or.inl rfl))
   (pss_cons (ps_set (i:=6) scMP.nd rfl (Or.inl rfl) (pe_call GP hr (by rfl) DP.at_ DP.fn.kp DP.bn .nil pass0 (pa_cons (pe_slice sl_lst (pv 3) (po_some (pv 5)) (po_some (pe_op op_add (pv 5) (pv 1)))) (pa_cons (pv 2) (pa_cons pe_int pa_nil)))))
   (pss_one (ps_expr (pe_bm PySem.F.plainAttrs_list PySem.F.slot_list_append PySem.F.type_list_append mt_append (pv 4) (pa_cons (pe_tup (pa_cons (pe_ix ix_tup (pv 6) pe_int (fun _ _=>rfl)) (pa_cons (pe_ix ix_tup (pv 6) pe_int (fun _ _=>rfl)) (pa_cons (pe_ix ix_tup (pv 6) pe_int (fun _ _=>rfl)) (pa_cons (pe_call GN hr (by rfl) DN.at_ DN.fn.kp DN.bn .nil pass0 (pa_cons (pe_call GS hr (by rfl) DS.at_ DS.fn.kp DS.bn .nil pass0 (pa_cons (pe_ix ix_list (pv 3) (pv 5) (fun _ _=>rfl)) pa_nil)) pa_nil)) pa_nil))))) pa_nil))))))
   (pss_cons (ps_mid (ps_if (pt_cmpR op_eq (pe_op op_mod (pe_call GC hr (by rfl) DC.at_ DC.fn.kp DC.bn .nil pass0 (pa_cons (pv 0) (pa_cons pe_int pa_nil))) pe_int) pe_int (nomark _)) (pss_cons (ps_set (i:=6) scMP.nd rfl (Or.inl rfl) (pe_call GP hr (by rfl) DP.at_ DP.fn.kp DP.bn .nil pass0 (pa_cons (pe_slice sl_lst (pv 3) po_none (po_some pe_int)) (pa_cons (pv 2) (pa_cons pe_int pa_nil)))))
   (pss_one (ps_if (pt_cmpR op_le (pe_callB call_len_seq (by rfl) mlen PySem.boot_len (pa_cons (pe_ix ix_tup (pv 6) pe_int (fun _ _=>rfl)) pa_nil)) pe_int (nomark _)) (pss_one (ps_expr (pe_bm PySem.F.plainAttrs_list PySem.F.slot_list_append PySem.F.type_list_append mt_append (pv 4) (pa_cons (pe_tup (pa_cons (pe_ix ix_tup (pv 6) pe_int (fun _ _=>rfl)) (pa_cons (pe_ix ix_tup (pv 6) pe_int (fun _ _=>rfl)) (pa_cons (pe_ix ix_tup (pv 6) pe_int (fun _ _=>rfl)) (pa_cons (pe_call GN hr (by rfl) DN.at_ DN.fn.kp DN.bn .nil pass0 (pa_cons (pe_call GS hr (by rfl) DS.at_ DS.fn.kp DS.bn .nil pass0 (pa_cons (pe_call GC hr (by rfl) DC.at_ DC.fn.kp DC.bn .nil pass0 (pa_cons (pv 0) (pa_cons pe_int pa_nil))) pa_nil)) pa_nil)) pa_nil))))) pa_nil)))) pss_nil))) pss_nil))
   (pss_one (ps_ret (pv 4))))))),?_⟩
  have z4:(4:Nat)<=sizeLine:=few (by omega)
  refine ⟨_,rfl,a,ns,_,rfl,hS,by decide,_,rfl,bits_cell hb _,fun seed _=>?_⟩
  obtain ⟨ms,em,hml,hmm⟩:=cut_any ns (some 2) none
  refine ⟨_,rfl,_,rfl,a,_,rfl,hS,fun c3 hc3=>?_⟩
  rw [em]
  have S1:=same_upd (o:=.lst (ms.map V.int)) hc3
  have k3:upd H c3 (.lst (ms.map V.int)) c3=some (.lst (ms.map V.int)):=upd_same
  generalize hH1:upd H c3 (.lst (ms.map V.int))=H1 at S1 k3
  refine ⟨Nat.zero_le _,fun t1 ht1=>⟨Nat.zero_le _,fun t2 ht2=>⟨Nat.zero_le _,fun t5 ht5=>⟨z4,fun t3 ht3=>⟨few (by show 1<=_;omega),fun l4 hl4=>?_⟩⟩⟩⟩⟩
  have U1:=same_upd (o:=.tup []) ht1
  have U2:=same_upd (o:=.tup []) ht2
  have U5:=same_upd (o:=.tup []) ht5
  have U3:=same_upd (o:=.tup [.ref t1,.ref t2,.ref t5,.int 0]) ht3
  have U4:=same_upd (o:=.lst [.ref t3]) hl4
  have U:=(((U1.trans U2).trans U5).trans U3).trans U4
  have P0:Pair4 (upd (upd (upd (upd (upd H1 t1 (.tup [])) t2 (.tup [])) t5 (.tup [])) t3 (.tup [.ref t1,.ref t2,.ref t5,.int 0])) l4 (.lst [.ref t3])) t3:=
   ⟨t1,t2,t5,0,[],[],[],U4 _ _ upd_same,U4 _ _ (U3 _ _ (U5 _ _ (U2 _ _ upd_same))),U4 _ _ (U3 _ _ (U5 _ _ upd_same)),U4 _ _ (U3 _ _ upd_same),⟨[],[],[],rfl,TupsAt.nil,rfl⟩,(fun _ z=>nomatch z),(fun _ z=>nomatch z),Nat.zero_le _,Nat.zero_le _,Nat.zero_le _⟩
  have l0:upd (upd (upd (upd (upd H1 t1 (.tup [])) t2 (.tup [])) t5 (.tup [])) t3 (.tup [.ref t1,.ref t2,.ref t5,.int 0])) l4 (.lst [.ref t3]) l4=some (.lst ([t3].map V.ref)):=upd_same
  have hl4H:H1 l4=none:=(((U1.trans U2).trans U5).trans U3).free hl4
  generalize hH2:upd (upd (upd (upd (upd H1 t1 (.tup [])) t2 (.tup [])) t5 (.tup [])) t3 (.tup [.ref t1,.ref t2,.ref t5,.int 0])) l4 (.lst [.ref t3])=H2 at U P0 l0
  have hlen:(ms.map V.int).length=ms.length:=List.length_map ..
  have rf:=rng_facts ms.length (by omega) m (by omega) (by omega)
  refine ⟨_,rfl,c3,_,rfl,.inl (SqL.of (U _ _ k3)),_,rfl,?_⟩
  rw [hlen]
  refine ⟨0,_,_,(ms.length+m - 1) / m,rfl,by omega,by omega,rf.1,rf.2,?_⟩
  have lens:∀ (as:List Addr),as.length<=90->(as.map V.ref).length < sizeLine:=fun as h=>by rw [List.length_map];exact fewer (by omega)
  have hcnt:(ms.length+m - 1) / m<=70:=Nat.le_trans (Nat.div_le_self _ _) (by omega)
  have more:∀ {H5:Hp} {as:List Addr} {r e c s:Addr} {es cs:List Str} {ss:List V} {n:Int} {a8:Addr},H5 l4=some (.lst (as.map V.ref))->(∀ x ∈ as,Pair4 H5 x)->H5 e=some (.tup (es.map V.str))->H5 c=some (.tup (cs.map V.str))->H5 s=some (.tup ss)->Wk H5 es cs ss->(∀ z ∈ es,Good z)->(∀ z ∈ cs,Good z)->es.length<=40->cs.length<=40->ss.length<=63->H5 a8=none →
    upd H5 a8 (.tup [.ref e,.ref c,.ref s,.int n]) l4=some (.lst (as.map V.ref))/\upd (upd H5 a8 (.tup [.ref e,.ref c,.ref s,.int n])) l4 (.lst (as.map V.ref++[.ref a8])) l4=some (.lst ((as++[a8]).map V.ref))/\(∀ x ∈ as++[a8],Pair4 (upd (upd H5 a8 (.tup [.ref e,.ref c,.ref s,.int n])) l4 (.lst (as.map V.ref++[.ref a8]))) x):=fun {H5 as r e c s es cs ss n a8} h4 hP he hc hs hw ge gc le lc ls h8=>by
   have S8:=same_upd (o:=.tup [.ref e,.ref c,.ref s,.int n]) h8
   have k8:=S8 _ _ h4
   refine ⟨k8,by rw [upd_same,List.map_append];rfl,fun x hx=>?_⟩
   rcases List.mem_append.mp hx with hx | hx
   ·exact ((hP x hx).mono S8).set k8
   ·rw [List.mem_singleton.mp hx]
    exact Pair4.set ⟨e,c,s,n,es,cs,ss,upd_same,S8 _ _ he,S8 _ _ hc,S8 _ _ hs,hw.same S8,ge,gc,le,lc,ls⟩ k8
  refine for_range3 (fun i σ H'=>∃ (as:List Addr) (v5 v6:Option V),σ=[some (.ref a),some (.int (m:Nat)),some (.int seed),some (.ref c3),some (.ref l4),v5,v6]/\H' l4=some (.lst (as.map V.ref))/\(∀ x ∈ as,Pair4 H' x)/\as.length=i+1/\Same H1 H') ⟨[t3],none,none,rfl,l0,fun x hx=>by rw [List.mem_singleton.mp hx];exact P0,rfl,U⟩ ?_ ?_
  ·rintro i σ H3 hi ⟨as,v5,v6,rfl,h4,hP,hal,S3⟩
   have hil:i < ms.length:=Nat.lt_of_lt_of_le hi (by subst hm;omega)
   have hkl:i * m < ms.length:=by subst hm;omega
   have ek:(0:Int)+((i:Nat):Int) * ((m:Nat):Int)=((i * m:Nat):Int):=by rw [Int.zero_add,<-Int.natCast_mul]
   rw [ek]
   generalize hk:i * m=k at hkl
   obtain ⟨x1,ex1,hx1,hxm⟩:=cut_any ms (some ((k:Nat):Int)) (some (((k:Nat):Int)+((m:Nat):Int)))
   have hx4:x1.length<=m:=by
    have:=cut_len (ms.map V.int) k m
    rw [ex1,List.length_map] at this
    exact this
   refine ⟨_,rfl,_,rfl,_,rfl,_,rfl,_,rfl,_,_,rfl,rfl,_,rfl,c3,_,rfl,SqL.of (S3 _ _ k3),fun c5 hc5=>?_⟩
   rw [ex1]
   have V1:=same_upd (o:=.lst (x1.map V.int)) hc5
   refine ⟨_,rfl,c5,x1,_,_,rfl,SqL.of upd_same,fun y hy=>hb y (hmm y (hxm y hy)),by omega,by decide,?_⟩
   intro H5 r e c s es cs ss S5 hr5 he5 hc5' ge gc hs5 hw5 lb lc ls
   have W5:=V1.trans S5
   have k4:=W5 _ _ h4
   have atk:atI (ms.map V.int) ((k:Nat):Int)=some (.int ms[k]):=atI_nat (by rw [List.getElem?_map,List.getElem?_eq_getElem hkl];rfl)
   refine ⟨_,rfl,.inl ⟨rfl,_,SqL.of k4⟩,_,rfl,r,_,_,_,rfl,rfl,SqT.of hr5,rfl,_,rfl,r,_,_,_,rfl,rfl,SqT.of hr5,rfl,_,rfl,r,_,_,_,rfl,rfl,SqT.of hr5,rfl,_,rfl,_,rfl,c3,_,_,_,rfl,rfl,SqL.of ((S3.trans W5) _ _ k3),atk,_,rfl,hb _ (hmm _ (List.getElem_mem hkl)),fun v1 hv1=>⟨_,rfl,hv1,fun v2 _=>⟨z4,fun a8 ha8=>?_⟩⟩⟩
   obtain ⟨k8,k9,P9⟩:=more (r:=r) (n:=v2) k4 (fun x hx=>(hP x hx).mono W5) he5 hc5' hs5 hw5 ge gc (by omega) (by omega) (by omega) ha8
   refine ⟨l4,_,_,rfl,rfl,k8,lens as (by omega),as++[a8],_,_,rfl,k9,P9,by rw [List.length_append,hal];rfl,same_to ((S3.trans W5).trans (same_upd ha8)) hl4H⟩
  ·rintro σ H3 ⟨as,v5,v6,rfl,h4,hP,hal,S3⟩
   refine ⟨fun σ' H'=>∃ (as:List Addr) (v5 v6:Option V),σ'=[some (.ref a),some (.int (m:Nat)),some (.int seed),some (.ref c3),some (.ref l4),v5,v6]/\H' l4=some (.lst (as.map V.ref))/\(∀ x ∈ as,Pair4 H' x)/\as.length<=100/\Same H1 H',?_,?_⟩
   ·refine ⟨_,rfl,a,ns,_,rfl,(S1.trans S3).seq hS,by decide,_,_,rfl,rfl,(by show (0:Int) < 4;decide),rfl,_,rfl,?_⟩
    refine ite2 (fun _=>?_) (fun _=>⟨as,v5,v6,rfl,h4,hP,by omega,S3⟩)
    obtain ⟨x1,ex1,hx1,hxm⟩:=cut_any ms none (some 6)
    have hx6:x1.length<=6:=by
     have:=congrArg List.length (cutTake V.int ms 6)
     rw [List.length_map,List.length_take,show (((6:Nat)):Int)=6 from rfl,ex1,List.length_map] at this
     omega
    refine ⟨_,rfl,_,rfl,c3,_,rfl,SqL.of (S3 _ _ k3),fun c5 hc5=>?_⟩
    rw [ex1]
    have V1:=same_upd (o:=.lst (x1.map V.int)) hc5
    refine ⟨_,rfl,c5,x1,_,_,rfl,SqL.of upd_same,fun y hy=>hb y (hmm y (hxm y hy)),by omega,by decide,?_⟩
    intro H5 r e c s es cs ss S5 hr5 he5 hc5' ge gc hs5 hw5 lb lc ls
    have W5:=V1.trans S5
    have k4:=W5 _ _ h4
    refine ⟨_,rfl,r,_,_,_,rfl,rfl,SqT.of hr5,rfl,e,_,rfl,.inr (SqT.of he5),_,_,rfl,rfl,_,rfl,?_⟩
    rw [List.length_map]
    refine ite2 (fun h40=>?_) (fun _=>⟨as,_,_,rfl,k4,fun x hx=>(hP x hx).mono W5,by omega,S3.trans W5⟩)
    have h40:=of_decide_eq_true h40
    refine ⟨_,rfl,.inl ⟨rfl,_,SqL.of k4⟩,_,rfl,r,_,_,_,rfl,rfl,SqT.of hr5,rfl,_,rfl,r,_,_,_,rfl,rfl,SqT.of hr5,rfl,_,rfl,r,_,_,_,rfl,rfl,SqT.of hr5,rfl,_,rfl,a,ns,_,rfl,((S1.trans S3).trans W5).seq hS,by decide,_,rfl,bits_cell hb _,fun v1 hv1=>⟨_,rfl,hv1,fun v2 _=>⟨z4,fun a8 ha8=>?_⟩⟩⟩
    obtain ⟨k8,k9,P9⟩:=more (r:=r) (n:=v2) k4 (fun x hx=>(hP x hx).mono W5) he5 hc5' hs5 hw5 ge gc (by omega) (by omega) (by omega) ha8
    refine ⟨l4,_,_,rfl,rfl,k8,lens as (by omega),as++[a8],_,_,rfl,k9,P9,by rw [List.length_append];show _+1<=_;omega,same_to ((S3.trans W5).trans (same_upd ha8)) hl4H⟩
   ·rintro σ' H' ⟨as,v5,v6,rfl,h4,hP,hal,S⟩
    exact ⟨_,rfl,q _ l4 as (S1.trans S) h4 hP hal⟩
theorem cut_one (es:List Str) (i:Nat):cutV (es.map V.str) (some ((i:Nat):Int)) (some (((i:Nat):Int)+1))=((es.drop i).take 1).map V.str:=by
 have e:((i:Nat):Int)+1=((i+1:Nat):Int):=by omega
 unfold cutV
 rw [e,HT.sIx_nat,HT.sIx_nat,List.length_map,<-List.map_drop,<-List.map_take]
 congr 1
 by_cases h:i+1<=es.length
 ·rw [Nat.min_eq_left (show i<=es.length by omega),Nat.min_eq_left h,Nat.add_sub_cancel_left]
 ·rw [Nat.min_eq_right (show es.length<=i+1 by omega),List.take_of_length_le (by rw [List.length_drop];omega),List.take_of_length_le (by rw [List.length_drop];omega)]
  by_cases h2:i<=es.length
  ·rw [Nat.min_eq_left h2]
  ·rw [Nat.min_eq_right (by omega),List.drop_of_length_le (Nat.le_refl _),List.drop_of_length_le (by omega)]
theorem one_yes {es:List Str} {i:Nat} (h:i < es.length):(es.drop i).take 1=[gt es i]:=by
 rw [List.drop_eq_getElem_cons h]
 show [es[i]]=_
 unfold gt
 rw [List.getElem?_eq_getElem h];rfl
theorem one_no {es:List Str} {i:Nat} (h:¬ i < es.length):(es.drop i).take 1=[]:=by
 rw [List.drop_of_length_le (by omega)];rfl
theorem two_yes {es:List Str} {i:Nat} (h:i+1 < es.length):(es.drop i).take 2=[gt es i,gt es (i+1)]:=by
 rw [List.drop_eq_getElem_cons (show i < es.length by omega),List.drop_eq_getElem_cons h]
 show [es[i],es[i+1]]=_
 unfold gt
 rw [List.getElem?_eq_getElem (show i < es.length by omega),List.getElem?_eq_getElem h];rfl
theorem two_no {es:List Str} {i:Nat} (h:¬ i+1 < es.length):((es.drop i).take 2).length ≠ 2:=by
 rw [List.length_take,List.length_drop];omega
theorem cut_tail (cs:List Str) (j:Nat) (hj:j<=cs.length):cutV ((cs.take j).map V.str) (some (-1)) none=(if j=0 then [] else [gt cs (j - 1)]).map V.str:=by
 unfold cutV
 have hl:((cs.take j).map V.str).length=j:=by rw [List.length_map,List.length_take];omega
 have e1:HT.sIx ((cs.take j).map V.str).length 0 (some (-1))=((-1:Int)+(j:Int)).toNat:=by
  rw [hl]
  show (if (-1:Int) < 0 then ((-1:Int)+(j:Int)).toNat else min ((-1:Int)).toNat j)=_
  rw [if_pos (by decide)]
 rw [e1,HT.sIx_none,hl,<-List.map_drop,<-List.map_take]
 congr 1
 by_cases h0:j=0
 ·rw [if_pos h0,h0];simp
 ·rw [if_neg h0]
  have e2:((-1:Int)+(j:Int)).toNat=j - 1:=by omega
  rw [e2,show j - (j - 1)=1 by omega,one_yes (by rw [List.length_take];omega)]
  unfold gt
  rw [List.getElem?_take,if_pos (by omega)]
def spLSt (K:PySem.W.Frag):Sp:=fun vs H Q _=>∃ (p q:Addr) (es cs:List Str) (i j:Nat),vs=[.ref p,.ref q,.int (i:Nat),.int (j:Nat)]/\SqT K H p (es.map V.str)/\SqT K H q (cs.map V.str)/\i<=es.length/\j<=cs.length/\es.length<=1000/\(∀ z ∈ cs,Good z) ∧
 ∀ (H':Hp) (l:Addr) (ts:List Addr),Same H H'->H' l=some (.lst (ts.map V.ref))->TupsAt H' ts ((ways es cs i j).map (·.1))->Q (.ref l) H'
theorem scLSteps:FnScope ["elder","copy","i","j","due","word","wanted","two","k"] ["elder","copy","i","j"] (defScope sLSteps):=⟨rfl,rfl,rfl,by decide +kernel,rfl,by decide +kernel,by decide +kernel⟩
theorem step_add {H H2:Hp} {l t:Addr} {ts:List Addr} {sts:List Sk} {st:Sk} (S:Same H H2) (hl:H l=none) (h1:H2 l=some (.lst (ts.map V.ref))) (hT:TupsAt H2 ts sts) (ht:H2 t=none) (ho:okS st) :
  upd H2 t (.tup (stepV st)) l=some (.lst (ts.map V.ref))/\upd (upd H2 t (.tup (stepV st))) l (.lst (ts.map V.ref++[.ref t])) l=some (.lst ((ts++[t]).map V.ref)) ∧
  Same H (upd (upd H2 t (.tup (stepV st))) l (.lst (ts.map V.ref++[.ref t])))/\TupsAt (upd (upd H2 t (.tup (stepV st))) l (.lst (ts.map V.ref++[.ref t]))) (ts++[t]) (sts++[st]):=by
 have S1:=same_upd (o:=.tup (stepV st)) ht
 have k1:=S1 _ _ h1
 exact ⟨k1,by rw [upd_same,List.map_append];rfl,same_to (S.trans S1) hl,((hT.mono S1).app (TupsAt.one upd_same ho)).set k1⟩
theorem ok_lst {f:Addr} {fd:FuncData} (F:Fun K "_law_steps" "_law_steps" sLSteps f fd) (mlen:mg "len" = none) (mrange:mg "range" = none):FnOk P w K mg base CX0 1 f fd ["elder","copy","i","j"] (spLSt K):=by
 refine F.ok scLSteps (fun vs H Q E h=>?_) (fun cdv A outer s H vs Q E hr h=>?_)
 ·obtain ⟨p,q,es,cs,i,j,rfl,_⟩:=h
  rfl
 ·obtain ⟨p,q0,es,cs,i,j,rfl,hp,hc,hi,hj,hel,hg,q⟩:=h
  have z1:(1:Nat)<=sizeLine:=few (by omega)
  have z2:(2:Nat)<=sizeLine:=few (by omega)
  obtain ⟨We,hWe⟩:∃ We,We=(es.drop i).take 1:=⟨_,rfl⟩
  obtain ⟨Wc,hWc⟩:∃ Wc,Wc=(cs.drop j).take 1:=⟨_,rfl⟩
  have ne0:∀ {H2:Hp} {a:Addr} {X:List Str},SqT K H2 a (X.map V.str)->∀ t,H2 t=none->EqS K (upd H2 t (.tup [])) 0 (.ref a) (.ref t) (decide (X=[])):=fun {H2 a X} h t ht=>EqS.strs (ys:=[]) (.inr ⟨sameT (same_upd ht) h,SqT.of upd_same⟩)
  have lens:∀ (ts:List Addr),ts.length<=2000->(ts.map V.ref).length < sizeLine:=fun ts h=>by rw [List.length_map];exact fewer (by omega)
  let σ0:Addr->Addr->Addr->Option V->Option V->L2.St:=fun l pw pq v7 v8=>[some (.ref p),some (.ref q0),some (.int (i:Nat)),some (.int (j:Nat)),some (.ref l),some (.ref pw),some (.ref pq),v7,v8]
  let tE:TS:=fun D σ H1=>∃ (l pw pq:Addr),σ=σ0 l pw pq none none/\H l=none/\H1 l=some (.lst (([]:List Addr).map V.ref))/\Same H H1/\SqT K H1 pw (We.map V.str)/\SqT K H1 pq (Wc.map V.str)/\¬ (We ≠ []/\Wc=We)/\∀ (H':Hp) (ts:List Addr),H' l=some (.lst (ts.map V.ref))->Same H H'->SqT K H' pw (We.map V.str)->SqT K H' pq (Wc.map V.str)->TupsAt H' ts ((w1 es cs i j).map (·.1))->ts.length<=1->D.nx (σ0 l pw pq none none) H'
  refine ⟨_,pss_cons (ps_set (i:=4) scLSteps.nd rfl (Or.inl rfl) (pe_lst pa_nil))
   (pss_cons (ps_set (i:=5) scLSteps.nd rfl (Or.inl rfl) (pe_slice sl_tupA (pv 0) (po_some (pv 2)) (po_some (pe_op op_add (pv 2) pe_int))))
   (pss_cons (ps_set (i:=6) scLSteps.nd rfl (Or.inl rfl) (pe_slice sl_tupA (pv 1) (po_some (pv 3)) (po_some (pe_op op_add (pv 3) pe_int))))
   (pss_cons (ps_mid (ps_if (pw_and (pt_cmpR (op_neS hr.units) (pv 5) (pe_tup pa_nil) (nomark _)) (pw_and1 (pt_cmpR (op_eqS hr.units) (pv 6) (pv 5) (nomark _)))).pt (pss_one (ps_expr (pe_bm PySem.F.plainAttrs_list PySem.F.slot_list_append PySem.F.type_list_append mt_append (pv 4) (pa_cons (pe_tup (pa_cons pe_str pa_nil)) pa_nil)))) (pss_as tE (pss_one (ps_if (pw_and (pt_cmpR (op_neS hr.units) (pv 5) (pe_tup pa_nil) (nomark _)) (pw_and1 (pt_cmpR (op_neS hr.units) (pv 6) (pe_tup pa_nil) (nomark _)))).pt (pss_one (ps_expr (pe_bm PySem.F.plainAttrs_list PySem.F.slot_list_append PySem.F.type_list_append mt_append (pv 4) (pa_cons (pe_tup (pa_cons pe_str (pa_cons (pe_ix ix_tup (pv 6) pe_int (fun _ _=>rfl)) pa_nil))) pa_nil)))) pss_nil)) (by
   rintro D σ H1 ⟨l,pw,pq,rfl,hl,h1,S,hw,hq,hno,fin⟩
   refine ⟨_,rfl,Nat.zero_le _,fun t0 ht0=>⟨0,_,by decide,ne0 hw t0 ht0,_,rfl,?_⟩⟩
   have S0:=same_upd (o:=.tup []) ht0
   have none1:¬ (i < es.length/\j < cs.length)->∀ {H2:Hp},Same H1 H2->D.nx (σ0 l pw pq none none) H2:=fun h H2 S2=>by
    refine fin H2 [] (S2 _ _ h1) (S.trans S2) (sameT S2 hw) (sameT S2 hq) ?_ (Nat.zero_le _)
    unfold w1
    rw [if_neg h]
    exact TupsAt.nil
   by_cases h1e:i < es.length
   ·have ew:We=[gt es i]:=by rw [hWe];exact one_yes h1e
    rw [decide_eq_false (show ¬ We=[] by rw [ew];exact fun z=>nomatch z)]
    refine iteT ⟨_,rfl,Nat.zero_le _,fun t2 ht2=>⟨0,_,by decide,ne0 (sameT S0 hq) t2 ht2,_,rfl,?_⟩⟩
    have S2:=S0.trans (same_upd (o:=.tup []) ht2)
    by_cases h1c:j < cs.length
    ·have ec:Wc=[gt cs j]:=by rw [hWc];exact one_yes h1c
     rw [decide_eq_false (show ¬ Wc=[] by rw [ec];exact fun z=>nomatch z)]
     have hq2:=sameT S2 hq
     rw [ec] at hq2
     refine iteT ⟨_,rfl,.inl ⟨rfl,_,SqL.of (S2 _ _ h1)⟩,_,rfl,pq,_,_,_,rfl,rfl,hq2,rfl,z2,fun t ht=>?_⟩
     obtain ⟨b1,b2,b3,b4⟩:=step_add (st:=.turn (gt cs j)) (S.trans S2) hl (S2 _ _ h1) TupsAt.nil ht (hg _ (gt_mem h1c))
     refine ⟨l,_,_,rfl,rfl,b1,lens [] (by show 0<=_;omega),?_⟩
     have St:=same_upd (o:=.tup (stepV (.turn (gt cs j)))) ht
     refine fin _ [t] b2 b3 (sqT_l (sameT St (sameT S2 hw)) b1) (sqT_l (sameT St (sameT S2 hq)) b1) ?_ (Nat.le_refl _)
     unfold w1
     rw [if_pos ⟨h1e,h1c⟩,if_neg (fun z=>hno ⟨(by rw [ew];exact (fun y=>nomatch y)),(by rw [ew,ec,z])⟩)]
     exact b4
    ·have ec:Wc=[]:=by rw [hWc];exact one_no h1c
     rw [decide_eq_true ec]
     exact iteF (none1 (fun c=>h1c c.2) S2)
   ·have ew:We=[]:=by rw [hWe];exact one_no h1e
    rw [decide_eq_true ew]
    exact iteF (iteF (none1 (fun c=>h1e c.1) S0))))))
   (pss_cons (ps_mid (ps_if (pt_cmpR (op_neS hr.units) (pv 5) (pe_tup pa_nil) (nomark _)) (pss_one (ps_expr (pe_bm PySem.F.plainAttrs_list PySem.F.slot_list_append PySem.F.type_list_append mt_append (pv 4) (pa_cons (pe_tup (pa_cons pe_str pa_nil)) pa_nil)))) pss_nil))
   (pss_cons (ps_mid (ps_if (pt_cmpR (op_neS hr.units) (pv 6) (pe_tup pa_nil) (nomark _)) (pss_one (ps_expr (pe_bm PySem.F.plainAttrs_list PySem.F.slot_list_append PySem.F.type_list_append mt_append (pv 4) (pa_cons (pe_tup (pa_cons pe_str (pa_cons (pe_ix ix_tup (pv 6) pe_int (fun _ _=>rfl)) pa_nil))) pa_nil)))) pss_nil))
   (pss_cons (ps_mid (ps_if (pw_and (pt_cmpR (op_neS hr.units) (pv 6) (pe_tup pa_nil) (nomark _)) (pw_and1 (pt_cmpR (op_eqS hr.units) (pe_slice sl_tupA (pe_slice sl_tupA (pv 1) po_none (po_some (pv 3))) (po_some (pe_un un_neg pe_int)) po_none) (pv 6) (nomark _)))).pt (pss_one (ps_expr (pe_bm PySem.F.plainAttrs_list PySem.F.slot_list_append PySem.F.type_list_append mt_append (pv 4) (pa_cons (pe_tup (pa_cons pe_str pa_nil)) pa_nil)))) pss_nil))
   (pss_cons (ps_set (i:=7) scLSteps.nd rfl (Or.inl rfl) (pe_slice sl_tupA (pv 0) (po_some (pv 2)) (po_some (pe_op op_add (pv 2) pe_int))))
   (pss_cons (ps_mid (ps_if (pw_and (pt_cmpR op_eq (pe_callB call_len_seq (by rfl) mlen PySem.boot_len (pa_cons (pv 7) pa_nil)) pe_int (nomark _)) (pw_and (pt_cmpR op_ne (pe_ix ix_tup (pv 7) pe_int (fun _ _=>rfl)) (pe_ix ix_tup (pv 7) pe_int (fun _ _=>rfl)) (nomark _)) (pw_and1 (pt_cmpR (op_eqS hr.units) (pe_slice sl_tupA (pv 1) (po_some (pv 3)) (po_some (pe_op op_add (pv 3) pe_int))) (pe_rev (pv 7) (pe_un un_neg pe_int)) (nomark _))))).pt (pss_one (ps_expr (pe_bm PySem.F.plainAttrs_list PySem.F.slot_list_append PySem.F.type_list_append mt_append (pv 4) (pa_cons (pe_tup (pa_cons pe_str pa_nil)) pa_nil)))) pss_nil))
   (pss_cons (ps_for PassesOwn.never rfl (pi_range2 (by rfl) mrange (pa_cons pe_int (pa_cons (pe_op op_add (pe_op op_sub (pe_callB call_len_seq (by rfl) mlen PySem.boot_len (pa_cons (pv 0) pa_nil)) (pv 2)) pe_int) pa_nil))) (pg_name (i:=8) scLSteps.nd rfl (Or.inl rfl)) (pss_one (ps_if (pw_and (pt_cmpR op_gt (pv 2) pe_int (nomark _)) (pw_and1 (pt_cmpR op_eq (pe_ix ix_tup (pv 0) (pe_op op_sub (pv 2) pe_int) (fun _ _=>rfl)) (pe_ix ix_tup (pv 0) (pe_op op_sub (pe_op op_add (pv 2) (pv 8)) pe_int) (fun _ _=>rfl)) (nomark _)))).pt (pss_one (ps_expr (pe_bm PySem.F.plainAttrs_list PySem.F.slot_list_append PySem.F.type_list_append mt_append (pv 4) (pa_cons (pe_tup (pa_cons pe_str (pa_cons (pv 8) pa_nil))) pa_nil)))) pss_nil)))
   (pss_one (ps_ret (pv 4)))))))))))),?_⟩
  refine ⟨Nat.zero_le _,fun l hl=>?_⟩
  have S0:=same_upd (o:=.lst []) hl
  refine ⟨_,rfl,_,rfl,_,rfl,_,rfl,_,_,rfl,rfl,_,rfl,cutTup (sameT S0 hp) fun pw Hw Sw hpw=>?_⟩
  rw [cut_one,<-hWe] at hpw
  refine ⟨_,rfl,_,rfl,_,rfl,_,rfl,_,_,rfl,rfl,_,rfl,cutTup (sameT Sw (sameT S0 hc)) fun pq Hq Sq hpq=>?_⟩
  rw [cut_one,<-hWc] at hpq
  have S1:=(S0.trans Sw).trans Sq
  have l1:Hq l=some (.lst (([]:List Addr).map V.ref)):=Sq _ _ (Sw _ _ upd_same)
  have hpw1:=sameT Sq hpw
  -- keep or turn
  refine ⟨fun σ' H'=>∃ ts:List Addr,σ'=σ0 l pw pq none none/\H' l=some (.lst (ts.map V.ref))/\Same H H'/\SqT K H' pw (We.map V.str)/\SqT K H' pq (Wc.map V.str)/\TupsAt H' ts ((w1 es cs i j).map (·.1))/\ts.length<=1,?_,?_⟩
  ·refine ⟨_,rfl,Nat.zero_le _,fun t0 ht0=>⟨0,_,by decide,ne0 hpw1 t0 ht0,_,rfl,?_⟩⟩
   have St:=same_upd (o:=.tup []) ht0
   by_cases h1:We=[]
   ·rw [decide_eq_true h1]
    exact iteF (iteF ⟨l,pw,pq,rfl,hl,St _ _ l1,S1.trans St,sameT St hpw1,sameT St hpq,fun c=>c.1 h1,fun H' ts a b c d e f=>⟨ts,rfl,a,b,c,d,e,f⟩⟩)
   ·rw [decide_eq_false h1]
    refine iteT ⟨_,rfl,_,rfl,0,_,by decide,EqS.strs (.inr ⟨sameT St hpq,sameT St hpw1⟩),_,rfl,?_⟩
    by_cases h2:Wc=We
    ·rw [decide_eq_true h2]
     have h1e:i < es.length:=by
      by_cases h:i < es.length
      ·exact h
      ·exact absurd (by rw [hWe];exact one_no h) h1
     have h1c:j < cs.length:=by
      by_cases h:j < cs.length
      ·exact h
      ·exact absurd (by rw [<-h2,hWc];exact one_no h) h1
     have eq1:gt es i=gt cs j:=by
      rw [hWc,hWe,one_yes h1e,one_yes h1c] at h2
      exact (List.cons.inj h2).1.symm
     refine iteT ⟨_,rfl,.inl ⟨rfl,_,SqL.of (St _ _ l1)⟩,z1,fun t ht=>?_⟩
     obtain ⟨b1,b2,b3,b4⟩:=step_add (st:=.keep) (S1.trans St) hl (St _ _ l1) TupsAt.nil ht trivial
     have Sk:=same_upd (o:=.tup (stepV .keep)) ht
     refine ⟨l,_,_,rfl,rfl,b1,lens [] (by show 0<=_;omega),[t],rfl,b2,b3,sqT_l (sameT Sk (sameT St hpw1)) b1,sqT_l (sameT Sk (sameT St hpq)) b1,?_,Nat.le_refl _⟩
     unfold w1
     rw [if_pos ⟨h1e,h1c⟩,if_pos eq1]
     exact b4
    ·rw [decide_eq_false h2]
     exact iteF ⟨l,pw,pq,rfl,hl,St _ _ l1,S1.trans St,sameT St hpw1,sameT St hpq,fun c=>h2 c.2,fun H' ts a b c d e f=>⟨ts,rfl,a,b,c,d,e,f⟩⟩
  rintro σ' H1 ⟨ts1,rfl,k1,S1,p1,c1,T1,L1⟩
  -- lose
  refine ⟨fun σ' H'=>∃ ts:List Addr,σ'=σ0 l pw pq none none/\H' l=some (.lst (ts.map V.ref))/\Same H H'/\SqT K H' pw (We.map V.str)/\SqT K H' pq (Wc.map V.str)/\TupsAt H' ts ((w1 es cs i j++w2 es i j).map (·.1))/\ts.length<=2,?_,?_⟩
  ·refine ⟨_,rfl,Nat.zero_le _,fun t0 ht0=>⟨0,_,by decide,ne0 p1 t0 ht0,_,rfl,?_⟩⟩
   have St:=same_upd (o:=.tup []) ht0
   by_cases h:i < es.length
   ·rw [decide_eq_false (show ¬ We=[] by rw [hWe,one_yes h];exact fun z=>nomatch z)]
    refine iteT ⟨_,rfl,.inl ⟨rfl,_,SqL.of (St _ _ k1)⟩,z1,fun t ht=>?_⟩
    obtain ⟨b1,b2,b3,b4⟩:=step_add (st:=.lose) (S1.trans St) hl (St _ _ k1) (T1.mono St) ht trivial
    have Sk:=same_upd (o:=.tup (stepV .lose)) ht
    refine ⟨l,_,_,rfl,rfl,b1,lens ts1 (by omega),ts1++[t],rfl,b2,b3,sqT_l (sameT Sk (sameT St p1)) b1,sqT_l (sameT Sk (sameT St c1)) b1,?_,by rw [List.length_append];show _+1<=_;omega⟩
    rw [List.map_append]
    unfold w2
    rw [if_pos h]
    exact b4
   ·rw [decide_eq_true (show We=[] by rw [hWe];exact one_no h)]
    refine iteF ⟨ts1,rfl,St _ _ k1,S1.trans St,sameT St p1,sameT St c1,?_,by omega⟩
    rw [List.map_append]
    unfold w2
    rw [if_neg h,List.map_nil,List.append_nil]
    exact T1.mono St
  rintro σ' H2 ⟨ts2,rfl,k2,S2,p2,c2,T2,L2⟩
  -- add
  refine ⟨fun σ' H'=>∃ ts:List Addr,σ'=σ0 l pw pq none none/\H' l=some (.lst (ts.map V.ref))/\Same H H'/\SqT K H' pw (We.map V.str)/\SqT K H' pq (Wc.map V.str)/\TupsAt H' ts ((w1 es cs i j++w2 es i j++w3 cs i j).map (·.1))/\ts.length<=3,?_,?_⟩
  ·refine ⟨_,rfl,Nat.zero_le _,fun t0 ht0=>⟨0,_,by decide,ne0 c2 t0 ht0,_,rfl,?_⟩⟩
   have St:=same_upd (o:=.tup []) ht0
   by_cases h:j < cs.length
   ·have ec:Wc=[gt cs j]:=by rw [hWc];exact one_yes h
    rw [decide_eq_false (show ¬ Wc=[] by rw [ec];exact fun z=>nomatch z)]
    have hq2:=sameT St c2
    rw [ec] at hq2
    refine iteT ⟨_,rfl,.inl ⟨rfl,_,SqL.of (St _ _ k2)⟩,_,rfl,pq,_,_,_,rfl,rfl,hq2,rfl,z2,fun t ht=>?_⟩
    obtain ⟨b1,b2,b3,b4⟩:=step_add (st:=.add (gt cs j)) (S2.trans St) hl (St _ _ k2) (T2.mono St) ht (hg _ (gt_mem h))
    have Sk:=same_upd (o:=.tup (stepV (.add (gt cs j)))) ht
    refine ⟨l,_,_,rfl,rfl,b1,lens ts2 (by omega),ts2++[t],rfl,b2,b3,sqT_l (sameT Sk (sameT St p2)) b1,sqT_l (sameT Sk (sameT St c2)) b1,?_,by rw [List.length_append];show _+1<=_;omega⟩
    rw [List.map_append]
    unfold w3
    rw [if_pos h]
    exact b4
   ·rw [decide_eq_true (show Wc=[] by rw [hWc];exact one_no h)]
    refine iteF ⟨ts2,rfl,St _ _ k2,S2.trans St,sameT St p2,sameT St c2,?_,by omega⟩
    rw [List.map_append]
    unfold w3
    rw [if_neg h,List.map_nil,List.append_nil]
    exact T2.mono St
  rintro σ' H3 ⟨ts3,rfl,k3,S3,p3,c3,T3,L3⟩
  -- twice
  refine ⟨fun σ' H'=>∃ ts:List Addr,σ'=σ0 l pw pq none none/\H' l=some (.lst (ts.map V.ref))/\Same H H'/\SqT K H' pw (We.map V.str)/\SqT K H' pq (Wc.map V.str)/\TupsAt H' ts ((w1 es cs i j++w2 es i j++w3 cs i j++w4 cs i j).map (·.1))/\ts.length<=4,?_,?_⟩
  ·have none4:¬ (0 < j/\j < cs.length/\gt cs j=gt cs (j - 1))->∀ {H4:Hp},Same H3 H4->∃ ts:List Addr,σ0 l pw pq none none=σ0 l pw pq none none/\H4 l=some (.lst (ts.map V.ref))/\Same H H4/\SqT K H4 pw (We.map V.str)/\SqT K H4 pq (Wc.map V.str)/\TupsAt H4 ts ((w1 es cs i j++w2 es i j++w3 cs i j++w4 cs i j).map (·.1))/\ts.length<=4:=fun h H4 S4=>by
    refine ⟨ts3,rfl,S4 _ _ k3,S3.trans S4,sameT S4 p3,sameT S4 c3,?_,by omega⟩
    rw [List.map_append]
    unfold w4
    rw [if_neg h,List.map_nil,List.append_nil]
    exact T3.mono S4
   refine ⟨_,rfl,Nat.zero_le _,fun t0 ht0=>⟨0,_,by decide,ne0 c3 t0 ht0,_,rfl,?_⟩⟩
   have St:=same_upd (o:=.tup []) ht0
   by_cases h:j < cs.length
   ·have ec:Wc=[gt cs j]:=by rw [hWc];exact one_yes h
    rw [decide_eq_false (show ¬ Wc=[] by rw [ec];exact fun z=>nomatch z)]
    refine iteT ⟨_,rfl,_,rfl,_,rfl,cutTup (sameT (S3.trans St) hc) fun pa Ha Sa hpa=>?_⟩
    rw [cutTake V.str cs j] at hpa
    refine ⟨_,rfl,_,rfl,?_⟩
    unfold tNoPart
    refine cutTup hpa fun pb Hb Sb hpb=>?_
    rw [show cutV ((cs.take j).map V.str) (some (-1)) none=_ from cut_tail cs j hj] at hpb
    have Sab:=(St.trans Sa).trans Sb
    refine ⟨_,rfl,0,_,by decide,EqS.strs (.inr ⟨hpb,sameT Sab c3⟩),_,rfl,?_⟩
    by_cases h4:0 < j/\j < cs.length/\gt cs j=gt cs (j - 1)
    ·rw [decide_eq_true (show (if j=0 then [] else [gt cs (j - 1)])=Wc by rw [if_neg (by omega),ec,h4.2.2])]
     refine iteT ⟨_,rfl,.inl ⟨rfl,_,SqL.of (Sab _ _ k3)⟩,z1,fun t ht=>?_⟩
     obtain ⟨b1,b2,b3,b4⟩:=step_add (st:=.twice) (S3.trans Sab) hl (Sab _ _ k3) (T3.mono Sab) ht trivial
     have Sk:=same_upd (o:=.tup (stepV .twice)) ht
     refine ⟨l,_,_,rfl,rfl,b1,lens ts3 (by omega),ts3++[t],rfl,b2,b3,sqT_l (sameT Sk (sameT Sab p3)) b1,sqT_l (sameT Sk (sameT Sab c3)) b1,?_,by rw [List.length_append];show _+1<=_;omega⟩
     rw [List.map_append]
     unfold w4
     rw [if_pos h4]
     exact b4
    ·rw [decide_eq_false (show ¬ (if j=0 then [] else [gt cs (j - 1)])=Wc from fun z=>h4 (by
      by_cases h0:j=0
      ·rw [if_pos h0,ec] at z;cases z
      ·rw [if_neg h0,ec] at z
       exact ⟨by omega,h,(List.cons.inj z).1.symm⟩))]
     exact iteF (none4 h4 Sab)
   ·rw [decide_eq_true (show Wc=[] by rw [hWc];exact one_no h)]
    exact iteF (iteF (none4 (fun c=>h c.2.1) St))
  rintro σ' H4 ⟨ts4,rfl,k4,S4,p4,c4,T4,L4⟩
  -- swap
  refine ⟨_,rfl,_,rfl,_,rfl,_,rfl,_,_,rfl,rfl,_,rfl,cutTup (sameT S4 hp) fun p7 H7 S7 hp7=>?_⟩
  rw [cutV_two] at hp7
  refine ⟨fun σ' H'=>∃ ts:List Addr,σ'=σ0 l pw pq (some (.ref p7)) none/\H' l=some (.lst (ts.map V.ref))/\Same H H'/\SqT K H' pw (We.map V.str)/\SqT K H' pq (Wc.map V.str)/\TupsAt H' ts ((w1 es cs i j++w2 es i j++w3 cs i j++w4 cs i j++w5 es cs i j).map (·.1))/\ts.length<=5,?_,?_⟩
  ·have k7:=S7 _ _ k4
   have none5:swapW es cs i j=false->∀ {H8:Hp},Same H7 H8->∃ ts:List Addr,σ0 l pw pq (some (.ref p7)) none=σ0 l pw pq (some (.ref p7)) none/\H8 l=some (.lst (ts.map V.ref))/\Same H H8/\SqT K H8 pw (We.map V.str)/\SqT K H8 pq (Wc.map V.str)/\TupsAt H8 ts ((w1 es cs i j++w2 es i j++w3 cs i j++w4 cs i j++w5 es cs i j).map (·.1))/\ts.length<=5:=fun h H8 S8=>by
    refine ⟨ts4,rfl,S8 _ _ k7,(S4.trans S7).trans S8,sameT S8 (sameT S7 p4),sameT S8 (sameT S7 c4),?_,by omega⟩
    rw [List.map_append]
    unfold w5
    rw [h,if_neg Bool.false_ne_true,List.map_nil,List.append_nil]
    exact (T4.mono S7).mono S8
   refine ⟨_,rfl,p7,_,rfl,.inr hp7,rfl,_,rfl,?_⟩
   rw [List.length_map]
   by_cases h:i+1 < es.length
   ·have e2:=two_yes h
    have hp7':=hp7
    rw [e2] at hp7'
    refine iteY (by rw [e2];rfl) ?_
    refine ⟨_,rfl,p7,_,_,_,rfl,rfl,hp7',rfl,_,rfl,p7,_,_,_,rfl,rfl,hp7',rfl,rfl,_,rfl,?_⟩
    by_cases hab:gt es i=gt es (i+1)
    ·refine iteNS (by rw [hab]) (iteF (none5 ?_ (Same.refl _)))
     unfold swapW
     rw [if_pos h,if_pos hab]
    ·refine ite2 (fun _=>?_) (fun c=>absurd (by rw [decide_eq_false (fun z=>hab (V.str.inj z)),Bool.not_false]) c)
     refine ⟨_,rfl,_,rfl,_,rfl,_,rfl,_,_,rfl,rfl,_,rfl,cutTup (sameT S7 (sameT S4 hc)) fun pc Hc Sc hpc=>?_⟩
     rw [cutV_two] at hpc
     refine ⟨_,rfl,_,rfl,rfl,p7,_,rfl,sameT Sc hp7',fun pr hpr=>?_⟩
     have Sr:=same_upd (o:=.tup ([V.str (gt es i),V.str (gt es (i+1))].reverse)) hpr
     have q1:SqT K (upd Hc pr (.tup ([V.str (gt es i),V.str (gt es (i+1))].reverse))) pr ([gt es (i+1),gt es i].map V.str):=SqT.of upd_same
     refine ⟨0,_,by decide,EqS.strs (.inr ⟨sameT Sr hpc,q1⟩),_,rfl,?_⟩
     have S8:=Sc.trans Sr
     by_cases hs:(cs.drop j).take 2=[gt es (i+1),gt es i]
     ·rw [decide_eq_true hs]
      have hsw:swapW es cs i j=true:=by unfold swapW;rw [if_pos h,if_neg hab,decide_eq_true hs]
      refine iteT ⟨_,rfl,.inl ⟨rfl,_,SqL.of (S8 _ _ k7)⟩,z1,fun t ht=>?_⟩
      obtain ⟨b1,b2,b3,b4⟩:=step_add (st:=.swap) ((S4.trans S7).trans S8) hl (S8 _ _ k7) ((T4.mono S7).mono S8) ht trivial
      have Sk:=same_upd (o:=.tup (stepV .swap)) ht
      refine ⟨l,_,_,rfl,rfl,b1,lens ts4 (by omega),ts4++[t],rfl,b2,b3,sqT_l (sameT Sk (sameT S8 (sameT S7 p4))) b1,sqT_l (sameT Sk (sameT S8 (sameT S7 c4))) b1,?_,by rw [List.length_append];show _+1<=_;omega⟩
      rw [List.map_append]
      unfold w5
      rw [hsw,if_pos rfl]
      exact b4
     ·rw [decide_eq_false hs]
      refine iteF (none5 ?_ S8)
      unfold swapW
      rw [if_pos h,if_neg hab,decide_eq_false hs]
   ·refine iteK (fun z=>two_no h (by have:=V.int.inj z;omega)) (iteF (none5 ?_ (Same.refl _)))
    unfold swapW
    rw [if_neg h]
  rintro σ' H5 ⟨ts5,rfl,k5,S5,p5,c5,T5,L5⟩
  -- skips
  have hlen:(es.map V.str).length=es.length:=List.length_map ..
  refine ⟨_,rfl,p,_,rfl,.inr (sameT S5 hp),_,rfl,_,_,rfl,rfl,_,_,rfl,rfl,1,_,rfl,⟨by decide,by decide,by rw [hlen];omega,by rw [hlen];omega⟩,?_⟩
  have en:((((es.map V.str).length:Int) - ((i:Nat):Int)+1) - 1).toNat=es.length - i:=by rw [hlen];omega
  rw [en]
  let sk:Nat->List Sk:=fun n=>if i=0 then [] else ((List.range n).filter fun k=>decide (gt es (i+k)=gt es (i - 1))).map fun k=>Sk.skip (k+1)
  have skl:∀ n,(sk n).length<=n:=fun n=>by
   show (if i=0 then [] else _).length<=n
   split
   ·exact Nat.zero_le _
   ·rw [List.length_map]
    exact Nat.le_trans (List.length_filter_le _ _) (by rw [List.length_range];exact Nat.le_refl _)
  refine for_range (fun n σ H'=>∃ (ts:List Addr) (v8:Option V),σ=σ0 l pw pq (some (.ref p7)) v8/\H' l=some (.lst (ts.map V.ref))/\Same H H'/\TupsAt H' ts ((w1 es cs i j++w2 es i j++w3 cs i j++w4 cs i j++w5 es cs i j).map (·.1)++sk n)/\ts.length<=5+n) ⟨ts5,none,rfl,k5,S5,?_,by omega⟩ ?_ ?_
  ·have:sk 0=[]:=by
    show (if i=0 then [] else _)=[]
    split <;> rfl
   rw [this,List.append_nil]
   exact T5
  ·rintro n σ H6 hn ⟨ts,v8,rfl,k6,S6,T6,L6⟩
   have hn1:sk (n+1)=if 0 < i/\gt es (i+n)=gt es (i - 1) then sk n++[.skip (n+1)] else sk n:=by
    show (if i=0 then [] else _)=_
    by_cases h0:i=0
    ·rw [if_pos h0,if_neg (by omega)]
     show []=(if i=0 then [] else _)
     rw [if_pos h0]
    ·rw [if_neg h0,List.range_succ,List.filter_append,List.map_append]
     have e:sk n=((List.range n).filter fun k=>decide (gt es (i+k)=gt es (i - 1))).map fun k=>Sk.skip (k+1):=by
      show (if i=0 then [] else _)=_
      rw [if_neg h0]
     rw [<-e]
     by_cases hg2:gt es (i+n)=gt es (i - 1)
     ·rw [if_pos ⟨by omega,hg2⟩,List.filter_cons_of_pos (by rw [decide_eq_true hg2])]
      rfl
     ·rw [if_neg (fun c=>hg2 c.2),List.filter_cons_of_neg (by rw [decide_eq_false hg2];exact Bool.false_ne_true)]
      exact List.append_nil _
   have none6:¬ (0 < i/\gt es (i+n)=gt es (i - 1))->∃ (ts':List Addr) (v8:Option V),σ0 l pw pq (some (.ref p7)) (some (.int (1+((n:Nat):Int))))=σ0 l pw pq (some (.ref p7)) v8/\H6 l=some (.lst (ts'.map V.ref))/\Same H H6/\TupsAt H6 ts' ((w1 es cs i j++w2 es i j++w3 cs i j++w4 cs i j++w5 es cs i j).map (·.1)++sk (n+1))/\ts'.length<=5+(n+1):=fun h=>by
    rw [hn1,if_neg h]
    exact ⟨ts,_,rfl,k6,S6,T6,by omega⟩
   refine ⟨_,rfl,_,_,rfl,rfl,_,rfl,?_⟩
   refine ite2 (fun h0=>?_) (fun h0=>iteF (none6 fun c=>h0 (decide_eq_true (by omega))))
   have h0:=of_decide_eq_true h0
   have e1:((i:Nat):Int)+(1+((n:Nat):Int)) - 1=((i+n:Nat):Int):=by omega
   have e2:((i:Nat):Int) - 1=((i - 1:Nat):Int):=by omega
   refine ⟨_,rfl,_,rfl,_,_,rfl,rfl,p,_,_,_,rfl,rfl,sameT S6 hp,(by rw [e2];exact at_w (by omega)),_,rfl,_,rfl,_,rfl,_,_,rfl,rfl,_,_,rfl,rfl,p,_,_,_,rfl,rfl,sameT S6 hp,(by rw [e1];exact at_w (by omega)),rfl,_,rfl,?_⟩
   refine ite2 (fun h1=>?_) (fun h1=>none6 fun c=>h1 (decide_eq_true (by rw [c.2])))
   have h1:=of_decide_eq_true h1
   injection h1 with h1
   have ek:(1:Int)+((n:Nat):Int)=((n+1:Nat):Int):=by omega
   refine ⟨_,rfl,.inl ⟨rfl,_,SqL.of k6⟩,_,rfl,z2,fun t ht=>?_⟩
   have ev:[V.str (Str.ofString "skip"),V.int (1+((n:Nat):Int))]=stepV (.skip (n+1)):=by
    rw [ek];rfl
   rw [ev] at *
   obtain ⟨b1,b2,b3,b4⟩:=step_add (st:=.skip (n+1)) S6 hl k6 T6 ht ⟨by omega,by omega⟩
   refine ⟨l,_,_,rfl,rfl,b1,lens ts (by omega),ts++[t],_,rfl,b2,b3,?_,by rw [List.length_append];show _+1<=_;omega⟩
   rw [hn1,if_pos ⟨by omega,h1.symm⟩,<-List.append_assoc]
   exact b4
  ·rintro σ H6 ⟨ts,v8,rfl,k6,S6,T6,L6⟩
   refine ⟨_,rfl,q _ l ts S6 k6 ?_⟩
   have e6:(w6 es i j).map (·.1)=sk (es.length - i):=by
    show ((skips es i).map _).map _=(if i=0 then [] else _)
    unfold skips
    by_cases h0:i=0
    ·rw [if_pos h0,if_pos h0];rfl
    ·rw [if_neg h0,if_neg h0,List.map_map,List.map_map];rfl
   unfold ways
   rw [List.map_append,e6]
   exact T6
theorem scLAlk:FnScope ["one","two"] ["one","two"] (defScope sLAlk):=⟨rfl,rfl,rfl,by decide +kernel,rfl,by decide +kernel,by decide +kernel⟩
theorem nd_LAlk:(["k","one","two"]:List Str).Nodup:=by decide +kernel
theorem ok_lalk {f:Addr} {fd:FuncData} (F:Fun K "_law_alike" "_law_alike" sLAlk f fd) (mlen:mg "len" = none) (mrange:mg "range" = none):FnOk P w K mg base CX0 1 f fd ["one","two"] spAlike:=by
 refine Fun.okR F scLAlk (fun vs H Q E h=>?_) (fun cdv A outer s H vs Q Q2 E hr h hq=>?_)
 ·obtain ⟨a,b,rfl,_⟩:=h
  rfl
 ·obtain ⟨a,b,rfl,ha,hb,q⟩:=h
  refine ⟨_,pss_one (ps_ret (pe_and (pe_cmpR op_eq (pe_callB call_len_str (by rfl) mlen PySem.boot_len (pa_cons (pv 0) pa_nil)) (pe_callB call_len_str (by rfl) mlen PySem.boot_len (pa_cons (pv 1) pa_nil)) (nomark _)) (pe_one (pe_cmpR op_eq (pe_callB call_len_seq (by rfl) mlen PySem.boot_len (pa_cons (pe_comp (Nc:=["k","one","two"]) (mp:=[none,some 0,some 1]) rfl (CompOk.of (by rfl)) (pi_range1 (by rfl) mrange (pa_cons (pe_callB call_len_str (by rfl) mlen PySem.boot_len (pa_cons (pv 0) pa_nil)) pa_nil))
    (fun cl C s H fp=>⟨pg_name (i:=0) nd_LAlk rfl (Or.inl rfl),pts_one (pt_cmpR op_ne (pe_ix ix_str (pv 1) (pv 0) (fun _ _=>rfl)) (pe_ix ix_str (pv 2) (pv 0) (fun _ _=>rfl)) (nomark _)),pv 0⟩)) pa_nil)) pe_int (nomark _))))),?_⟩
  refine ⟨_,rfl,a,rfl,ha,_,rfl,b,rfl,hb,rfl,_,rfl,?_⟩
  by_cases hl:a.length=b.length
  ·refine iteY (by rw [hl]) ?_
   refine ⟨_,rfl,a,rfl,ha,(a.length:Int),rfl,(by omega),(by have:=szl;omega),?_⟩
   rw [Int.toNat_natCast]
   refine comp_pure (as:=List.range a.length) (v:=fun i=>.int (0+(i:Nat))) (fun i=>!decide (a.cps.toList[i]?=b.cps.toList[i]?)) (fun i=>.int (0+(i:Nat))) (src_range 0 a.length H) (by rw [List.length_range];exact ha) (fun i hi k hk=>?_) (fun i hi _ k hk=>?_) (fun D hD=>?_)
   ·have hi':=List.mem_range.mp hi
    have ea:a.cps.toList[i]?=some a.cps.toList[i]:=List.getElem?_eq_getElem (by rw [clen];exact hi')
    have eb:b.cps.toList[i]?=some b.cps.toList[i]:=List.getElem?_eq_getElem (by rw [clen,<-hl];exact hi')
    have ei:(0:Int)+((i:Nat):Int)=((i:Nat):Int):=by omega
    refine ⟨_,rfl,_,rfl,a,_,a.cps.toList[i],rfl,rfl,ha,(by rw [ei];exact atI_nat ea),_,rfl,_,rfl,b,_,b.cps.toList[i],rfl,rfl,hb,(by rw [ei];exact atI_nat eb),rfl,_,rfl,?_⟩
    have e:(!decide (V.str ⟨#[a.cps.toList[i]]⟩=V.str ⟨#[b.cps.toList[i]]⟩))=(!decide (a.cps.toList[i]?=b.cps.toList[i]?)):=by
     rw [ea,eb]
     congr 1
     exact decide_eq_decide.mpr ⟨fun z=>by injection z with z;injection z with z;simpa using z,fun z=>by rw [Option.some.inj z]⟩
    rw [e];exact hk
   ·exact ⟨_,rfl,hk⟩
   ·refine ⟨D,_,rfl,.inl (SqL.of upd_same),rfl,hq _ _ (Rst.same (same_upd hD) ?_)⟩
    rw [List.length_map]
    have e:decide (V.int (((List.range a.length).filter fun i=>!decide (a.cps.toList[i]?=b.cps.toList[i]?)).length:Nat)=V.int 1)=alikeB a.cps.toList b.cps.toList:=by
     unfold alikeB placesB
     rw [if_pos (by rw [clen,clen];exact hl),clen]
     exact decide_eq_decide.mpr ⟨fun z=>by injection z with z;omega,fun z=>by rw [z];rfl⟩
    rw [e];exact q
  ·refine iteK (fun z=>hl (by injection z with z;omega)) ?_
   refine hq _ _ (Rst.same (Same.refl H) ?_)
   have e:alikeB a.cps.toList b.cps.toList=false:=by
    unfold alikeB
    rw [if_neg (by rw [clen,clen];exact hl)]
   rw [<-e];exact q
def kinds5:List Str:=[Str.ofString "lose",Str.ofString "add",Str.ofString "twice",Str.ofString "swap",Str.ofString "skip"]
theorem scLPrice:FnScope ["elder","i","step","prices"] ["elder","i","step","prices"] (defScope sLPrice):=⟨rfl,rfl,rfl,by decide +kernel,rfl,by decide +kernel,by decide +kernel⟩
theorem ok_lprice {f gL:Addr} {fd dL:FuncData} (F:Fun K "_law_price" "_law_price" sLPrice f fd) (DL:Dfn K mg "_law_alike" sLAlk gL dL ["one","two"]) (GL:FnOk P w K mg base CX0 1 gL dL ["one","two"] spAlike) (mint:mg "int" = none):FnOk P w K mg base CX0 2 f fd ["elder","i","step","prices"] (spPrice K):=by
 refine Fun.okR F scLPrice (fun vs H Q E h=>?_) (fun cdv A outer s H vs Q Q2 E hr h hq=>?_)
 ·obtain ⟨p,t,q,es,d,st,pr,rfl,_⟩:=h
  rfl
 ·obtain ⟨p,t,r,es,d,st,pr,rfl,hp,hg,ht,hok,hto,hpr,hl7,q⟩:=h
  refine ⟨_,pss_cons (ps_if (pt_cmpR op_eq (pe_ix ix_tup (pv 2) pe_int (fun _ _=>rfl)) pe_str (nomark _)) (pss_one (ps_ret pe_int)) pss_nil)
   (pss_cons (ps_if (pt_cmpR op_eq (pe_ix ix_tup (pv 2) pe_int (fun _ _=>rfl)) pe_str (nomark _))
    (pss_one (ps_ret (pe_ix ix_tup (pv 3) (pe_op op_sub pe_int (pe_callTy call_int1 (by rfl) mint boot_int (pa_cons (pe_call GL hr (by rfl) DL.at_ DL.fn.kp DL.bn .nil pass0 (pa_cons (pe_ix ix_tup (pv 0) (pv 1) (fun _ _=>rfl)) (pa_cons (pe_ix ix_tup (pv 2) pe_int (fun _ _=>rfl)) pa_nil))) pa_nil))) (fun _ _=>rfl)))) pss_nil)
   (pss_one (ps_ret (pe_ix ix_tup (pv 3) (pe_op op_add pe_int (pe_bm PySem.F.plainAttrs_list PySem.F.slot_list_index PySem.F.type_list_index mt_indexL (pe_lst (pa_cons pe_str (pa_cons pe_str (pa_cons pe_str (pa_cons pe_str (pa_cons pe_str pa_nil)))))) (pa_cons (pe_ix ix_tup (pv 2) pe_int (fun _ _=>rfl)) pa_nil))) (fun _ _=>rfl))))),?_⟩
  have go:∀ i H',Same H H'->price es d pr st=i->Q2 (.int i) H':=fun i H' S e=>hq _ _ (Rst.same S (by rw [<-e];exact q))
  by_cases hkp:st=.keep
  ·subst hkp
   exact ⟨_,rfl,t,_,_,_,rfl,rfl,ht,rfl,rfl,_,rfl,iteY rfl (go _ _ (Same.refl H) rfl)⟩
  by_cases htn:∃ z,st=.turn z
  ·obtain ⟨z,rfl⟩:=htn
   have hd:d < es.length:=hto
   refine ⟨_,rfl,t,_,_,_,rfl,rfl,ht,rfl,rfl,_,rfl,iteK (by decide +kernel) ?_⟩
   refine ⟨_,rfl,t,_,_,_,rfl,rfl,ht,rfl,rfl,_,rfl,iteY rfl ?_⟩
   refine ⟨_,rfl,_,rfl,_,rfl,p,_,_,_,rfl,rfl,hp,at_w hd,_,rfl,t,_,_,_,rfl,rfl,ht,rfl,_,_,rfl,(hg _ (gt_mem hd)).small,Good.small hok,.inr ⟨_,rfl,_,_,rfl,rfl,?_⟩⟩
   cases hb:alikeB (gt es d).cps.toList z.cps.toList with
   | true=>exact ⟨r,_,_,_,rfl,rfl,hpr,at_p (i:=0) (by omega),go _ _ (Same.refl H) (by show (if alikeB (gt es d).cps.toList z.cps.toList=true then _ else _)=_;rw [hb];rfl)⟩
   | false=>exact ⟨r,_,_,_,rfl,rfl,hpr,at_p (i:=1) (by omega),go _ _ (Same.refl H) (by show (if alikeB (gt es d).cps.toList z.cps.toList=true then _ else _)=_;rw [hb];rfl)⟩
  ·obtain ⟨z,rest,j,e1,e0,e2,e3,e4,e5,e6⟩:∃ (z:Str) (rest:List V) (j:Nat),stepV st=V.str z :: rest/\V.str z ≠ V.str (Str.ofString "keep")/\V.str z ≠ V.str (Str.ofString "turn")/\kinds5[j]?=some z/\(∀ m,m < j->kinds5[m]? ≠ some z)/\j < 5/\price es d pr st=gI pr (2+j):=by
    cases st with
    | keep=>exact absurd rfl hkp
    | lose=>exact ⟨_,_,0,rfl,by decide +kernel,by decide +kernel,rfl,by decide +kernel,by decide,rfl⟩
    | add z=>exact ⟨_,_,1,rfl,by decide +kernel,by decide +kernel,rfl,by decide +kernel,by decide,rfl⟩
    | twice=>exact ⟨_,_,2,rfl,by decide +kernel,by decide +kernel,rfl,by decide +kernel,by decide,rfl⟩
    | swap=>exact ⟨_,_,3,rfl,by decide +kernel,by decide +kernel,rfl,by decide +kernel,by decide,rfl⟩
    | skip m=>exact ⟨_,_,4,rfl,by decide +kernel,by decide +kernel,rfl,by decide +kernel,by decide,rfl⟩
    | turn z=>exact absurd ⟨z,rfl⟩ htn
   have a0:atI (stepV st) 0=some (.str z):=atI_nat (j:=0) (by rw [e1];rfl)
   refine ⟨_,rfl,t,_,_,_,rfl,rfl,ht,a0,rfl,_,rfl,iteK e0 ?_⟩
   refine ⟨_,rfl,t,_,_,_,rfl,rfl,ht,a0,rfl,_,rfl,iteK e2 ?_⟩
   refine ⟨_,rfl,few (by show 5<=_;omega),fun l2 hl2=>?_⟩
   have S2:=same_upd (o:=.lst (kinds5.map V.str)) hl2
   refine ⟨.inl ⟨rfl,_,SqL.of upd_same⟩,_,rfl,t,_,_,_,rfl,rfl,sameT S2 ht,a0,l2,kinds5,z,j,rfl,rfl,upd_same,e3,e4,(by show 5<=1000;omega),_,_,rfl,rfl,?_⟩
   have ej:(2:Int)+((j:Nat):Int)=((2+j:Nat):Int):=by omega
   exact ⟨r,_,_,_,rfl,rfl,sameT S2 hpr,(by rw [ej];exact at_p (i:=2+j) (by omega)),go _ _ S2 e6⟩
def knotV (n k:Nat):List V:=[.int ((k / (n+1):Nat):Int),.int ((k % (n+1):Nat):Int)]
theorem knotV_at {n i j:Nat} (h:j < n+1):knotV n (i * (n+1)+j)=[.int ((i:Nat):Int),.int ((j:Nat):Int)]:=by
 unfold knotV
 have e1:(i * (n+1)+j) / (n+1)=i:=by
  rw [Nat.mul_comm,Nat.mul_add_div (by omega),Nat.div_eq_of_lt h];rfl
 have e2:(i * (n+1)+j) % (n+1)=j:=by
  rw [Nat.mul_comm,Nat.mul_add_mod,Nat.mod_eq_of_lt h]
 rw [e1,e2]
def spKnO (K:PySem.W.Frag):Sp:=fun vs H Q _=>∃ (p q:Addr) (es cs:List V),vs=[.ref p,.ref q]/\SqT K H p es/\SqT K H q cs/\es.length<=40/\cs.length<=40 ∧
 ∀ (H':Hp) (l:Addr) (as:List Addr),Same H H'->H' l=some (.lst (as.map V.ref))->as.length=(es.length+1) * (cs.length+1)->(∀ k a,as[k]?=some a->H' a=some (.tup (knotV cs.length k)))->Q (.ref l) H'
theorem scKnots:FnScope ["elder","copy","found","i","j"] ["elder","copy"] (defScope sKnots):=⟨rfl,rfl,rfl,by decide +kernel,rfl,by decide +kernel,by decide +kernel⟩
theorem ok_knO {f:Addr} {fd:FuncData} (F:Fun K "_law_knots" "_law_knots" sKnots f fd) (mlen:mg "len" = none) (mrange:mg "range" = none):FnOk P w K mg base CX0 1 f fd ["elder","copy"] (spKnO K):=by
 refine F.ok scKnots (fun vs H Q E h=>?_) (fun cdv A outer s H vs Q E hr h=>?_)
 ·obtain ⟨p,q,es,cs,rfl,_⟩:=h
  rfl
 ·obtain ⟨p,q0,es,cs,rfl,hp,hc,he,hcl,q⟩:=h
  refine ⟨_,pss_cons (ps_set (i:=2) scKnots.nd rfl (Or.inl rfl) (pe_lst pa_nil))
   (pss_cons (ps_for PassesOwn.never rfl (pi_range1 (by rfl) mrange (pa_cons (pe_op op_add (pe_callB call_len_seq (by rfl) mlen PySem.boot_len (pa_cons (pv 0) pa_nil)) pe_int) pa_nil)) (pg_name (i:=3) scKnots.nd rfl (Or.inl rfl)) (pss_one (ps_for PassesOwn.never rfl (pi_range1 (by rfl) mrange (pa_cons (pe_op op_add (pe_callB call_len_seq (by rfl) mlen PySem.boot_len (pa_cons (pv 1) pa_nil)) pe_int) pa_nil)) (pg_name (i:=4) scKnots.nd rfl (Or.inl rfl)) (pss_one (ps_expr (pe_bm PySem.F.plainAttrs_list PySem.F.slot_list_append PySem.F.type_list_append mt_append (pv 2) (pa_cons (pe_tup (pa_cons (pv 3) (pa_cons (pv 4) pa_nil))) pa_nil)))))))
   (pss_one (ps_ret (pv 2)))),?_⟩
  refine ⟨Nat.zero_le _,fun l hl=>?_⟩
  have S0:=same_upd (o:=.lst []) hl
  refine ⟨_,rfl,p,_,rfl,.inr (sameT S0 hp),_,_,rfl,rfl,_,rfl,by omega,by omega,?_⟩
  rw [show ((es.length:Int)+1).toNat=es.length+1 by omega]
  refine for_range (fun i σ H2=>∃ (as:List Addr) (v3 v4:Option V),σ=[some (.ref p),some (.ref q0),some (.ref l),v3,v4]/\H2 l=some (.lst (as.map V.ref))/\Same H H2/\(∀ k a,as[k]?=some a->H2 a=some (.tup (knotV cs.length k)))/\as.length=i * (cs.length+1))
   ⟨[],none,none,rfl,upd_same,S0,(fun k a z=>by simp at z),by simp⟩ ?_ ?_
  ·rintro i σ H2 hi ⟨as,v3,v4,rfl,h2,S2,hA,hal⟩
   have ei:(0:Int)+((i:Nat):Int)=((i:Nat):Int):=by omega
   have hbig:i * (cs.length+1)<=40 * 41:=Nat.mul_le_mul (by omega) (by omega)
   rw [ei]
   refine ⟨_,rfl,q0,_,rfl,.inr (sameT S2 hc),_,_,rfl,rfl,_,rfl,by omega,by omega,?_⟩
   rw [show ((cs.length:Int)+1).toNat=cs.length+1 by omega]
   refine for_range (fun j σ H3=>∃ (bs:List Addr) (v4:Option V),σ=[some (.ref p),some (.ref q0),some (.ref l),some (.int ((i:Nat):Int)),v4]/\H3 l=some (.lst (bs.map V.ref))/\Same H H3/\(∀ k a,bs[k]?=some a->H3 a=some (.tup (knotV cs.length k)))/\bs.length=i * (cs.length+1)+j)
    ⟨as,v4,rfl,h2,S2,hA,by omega⟩ ?_ ?_
   ·rintro j σ H3 hj ⟨bs,v4,rfl,h3,S3,hB,hbl⟩
    have ej:(0:Int)+((j:Nat):Int)=((j:Nat):Int):=by omega
    rw [ej]
    refine ⟨_,rfl,.inl ⟨rfl,_,SqL.of h3⟩,_,rfl,_,rfl,few (by show 2<=_;omega),fun t ht=>?_⟩
    have St:=same_upd (o:=.tup [.int ((i:Nat):Int),.int ((j:Nat):Int)]) ht
    have k3:=St _ _ h3
    refine ⟨l,_,_,rfl,rfl,k3,(by rw [List.length_map];exact fewer (by omega)),bs++[t],_,rfl,by rw [upd_same,List.map_append];rfl,same_to (S3.trans St) hl,fun k a ha=>?_,by rw [List.length_append,hbl];rfl⟩
    have keepT:∀ {x:Addr} {ys:List V},upd H3 t (.tup [.int ((i:Nat):Int),.int ((j:Nat):Int)]) x=some (.tup ys)->upd (upd H3 t (.tup [.int ((i:Nat):Int),.int ((j:Nat):Int)])) l (.lst (bs.map V.ref++[.ref t])) x=some (.tup ys):=fun {x ys} h=>by
     have:x ≠ l:=fun z=>by rw [z,k3] at h;cases h
     rw [upd_ne this];exact h
    by_cases hk:k < bs.length
    ·rw [List.getElem?_append_left hk] at ha
     exact keepT (St _ _ (hB k a ha))
    ·have hk2:k - bs.length=0:=by
      have:=(List.getElem?_eq_some_iff.mp ha).1
      rw [List.length_append] at this
      have:k < bs.length+1:=this
      omega
     rw [List.getElem?_append_right (by omega),hk2] at ha
     have hat:t=a:=Option.some.inj ha
     have hkk:k=i * (cs.length+1)+j:=by omega
     rw [hkk,knotV_at hj,<-hat]
     exact keepT upd_same
   ·rintro σ H3 ⟨bs,v4,rfl,h3,S3,hB,hbl⟩
    exact ⟨bs,_,_,rfl,h3,S3,hB,by rw [hbl,Nat.add_mul];omega⟩
  ·rintro σ H2 ⟨as,v3,v4,rfl,h2,S2,hA,hal⟩
   exact ⟨_,rfl,q _ l as S2 h2 hal hA⟩
theorem pe_two {X:Cx} {a b:Int} {j1 j2 k:Nat} {p1 p2 pos:Pos}:PE X (.Tuple [.Constant (.int a) j1 p1,.Constant (.int b) j2 p2] k pos) (tTup (tCons (tC (.int a)) (tCons (tC (.int b)) tNil))):=pe_tup (pa_cons pe_int (pa_cons pe_int pa_nil))
abbrev tw (a b:Int):TE:=tTup (tCons (tC (.int a)) (tCons (tC (.int b)) tNil))
theorem pe_disp6 {X:Cx} {pos:Pos} {k1 k2 k3 k4 k5 k6 v1 v2 v3 v4 v5 v6:Expr} {a1 a2 a3 a4 a5 a6 b1 b2 b3 b4 b5 b6:TE} (h1:PE X k1 a1) (g1:PE X v1 b1) (h2:PE X k2 a2) (g2:PE X v2 b2) (h3:PE X k3 a3) (g3:PE X v3 b3) (h4:PE X k4 a4) (g4:PE X v4 b4) (h5:PE X k5 a5) (g5:PE X v5 b5) (h6:PE X k6 a6) (g6:PE X v6 b6):PE X (.Dict [some k1,some k2,some k3,some k4,some k5,some k6] [v1,v2,v3,v4,v5,v6] pos) (tDisp [(a1,b1),(a2,b2),(a3,b3),(a4,b4),(a5,b5),(a6,b6)]):=
 have x7:PPs X pos [] [] []:=pps_nil
 have x6:PPs X pos [some k6] [v6] [(a6,b6)]:=pps_cons h6 g6 x7
 have x5:PPs X pos [some k5,some k6] [v5,v6] [(a5,b5),(a6,b6)]:=pps_cons h5 g5 x6
 have x4:PPs X pos [some k4,some k5,some k6] [v4,v5,v6] [(a4,b4),(a5,b5),(a6,b6)]:=pps_cons h4 g4 x5
 have x3:PPs X pos [some k3,some k4,some k5,some k6] [v3,v4,v5,v6] [(a3,b3),(a4,b4),(a5,b5),(a6,b6)]:=pps_cons h3 g3 x4
 have x2:PPs X pos [some k2,some k3,some k4,some k5,some k6] [v2,v3,v4,v5,v6] [(a2,b2),(a3,b3),(a4,b4),(a5,b5),(a6,b6)]:=pps_cons h2 g2 x3
 have x1:PPs X pos [some k1,some k2,some k3,some k4,some k5,some k6] [v1,v2,v3,v4,v5,v6] [(a1,b1),(a2,b2),(a3,b3),(a4,b4),(a5,b5),(a6,b6)]:=pps_cons h1 g1 x2
 pe_disp x1 rfl rfl (List.cons_ne_nil _ _) (Nat.le_of_ble_eq_true rfl)
abbrev trM:List (TE × TE):=[(tC (.str (Str.ofString "keep")),tw 1 1),(tC (.str (Str.ofString "turn")),tw 1 1),(tC (.str (Str.ofString "lose")),tw 1 0),(tC (.str (Str.ofString "add")),tw 0 1),(tC (.str (Str.ofString "twice")),tw 0 1),(tC (.str (Str.ofString "swap")),tw 2 2)]
def movesE:Expr:=.Dict [some (.Constant (.str "keep") 0 ⟨252,13,252,19⟩),some (.Constant (.str "turn") 0 ⟨252,29,252,35⟩),some (.Constant (.str "lose") 0 ⟨252,45,252,51⟩),some (.Constant (.str "add") 0 ⟨252,61,252,66⟩),some (.Constant (.str "twice") 0 ⟨252,76,252,83⟩),some (.Constant (.str "swap") 0 ⟨252,93,252,99⟩)] [.Tuple [.Constant (.int 1) 0 ⟨252,22,252,23⟩,.Constant (.int 1) 0 ⟨252,25,252,26⟩] 0 ⟨252,21,252,27⟩,.Tuple [.Constant (.int 1) 0 ⟨252,38,252,39⟩,.Constant (.int 1) 0 ⟨252,41,252,42⟩] 0 ⟨252,37,252,43⟩,.Tuple [.Constant (.int 1) 0 ⟨252,54,252,55⟩,.Constant (.int 0) 0 ⟨252,57,252,58⟩] 0 ⟨252,53,252,59⟩,.Tuple [.Constant (.int 0) 0 ⟨252,69,252,70⟩,.Constant (.int 1) 0 ⟨252,72,252,73⟩] 0 ⟨252,68,252,74⟩,.Tuple [.Constant (.int 0) 0 ⟨252,86,252,87⟩,.Constant (.int 1) 0 ⟨252,89,252,90⟩] 0 ⟨252,85,252,91⟩,.Tuple [.Constant (.int 2) 0 ⟨252,102,252,103⟩,.Constant (.int 2) 0 ⟨252,105,252,106⟩] 0 ⟨252,101,252,107⟩] ⟨252,12,252,108⟩
theorem pe_movesE {X:Cx}:PE X movesE (tDisp trM):=by
 unfold movesE
 refine pe_disp6 ?_ ?_ ?_ ?_ ?_ ?_ ?_ ?_ ?_ ?_ ?_ ?_
 ·exact pe_str
 ·exact pe_two
 ·exact pe_str
 ·exact pe_two
 ·exact pe_str
 ·exact pe_two
 ·exact pe_str
 ·exact pe_two
 ·exact pe_str
 ·exact pe_two
 ·exact pe_str
 ·exact pe_two
theorem sw_movesE {X:Cx}:swapsWith movesE (some (.Name "moves" ⟨252,4,252,9⟩)) (Pos.line ⟨252,4,252,108⟩) X.env=pure false:=rfl
theorem body_end:defBody sEnd=.Assign [.Name "moves" ⟨252,4,252,9⟩] movesE ⟨252,4,252,108⟩ :: (defBody sEnd).tail:=rfl
def endS:Sk->Nat × Nat
 | .keep=>(1,1)
 | .turn _=>(1,1)
 | .lose=>(1,0)
 | .add _=>(0,1)
 | .twice=>(0,1)
 | .swap=>(2,2)
 | .skip m=>(m,0)
theorem ways_end {es cs:List Str} {i j:Nat} {x:Way} (h:x ∈ ways es cs i j):x.2.1=i+(endS x.1).1/\x.2.2=j+(endS x.1).2:=by
 unfold ways at h
 rcases List.mem_append.mp h with h | h
 ·rcases List.mem_append.mp h with h | h
  ·rcases List.mem_append.mp h with h | h
   ·rcases List.mem_append.mp h with h | h
    ·rcases List.mem_append.mp h with h | h
     ·unfold w1 at h
      split at h
      ·rw [List.mem_singleton.mp h]
       dsimp only
       split <;> exact ⟨rfl,rfl⟩
      ·cases h
     ·unfold w2 at h
      split at h
      ·rw [List.mem_singleton.mp h];exact ⟨rfl,rfl⟩
      ·cases h
    ·unfold w3 at h
     split at h
     ·rw [List.mem_singleton.mp h];exact ⟨rfl,rfl⟩
     ·cases h
   ·unfold w4 at h
    split at h
    ·rw [List.mem_singleton.mp h];exact ⟨rfl,rfl⟩
    ·cases h
  ·unfold w5 at h
   split at h
   ·rw [List.mem_singleton.mp h];exact ⟨rfl,rfl⟩
   ·cases h
 ·unfold w6 at h
  obtain ⟨k,hk,rfl⟩:=List.mem_map.mp h
  exact ⟨rfl,rfl⟩
def spEnd (K:PySem.W.Frag):Sp:=fun vs H Q _=>∃ (i j:Nat) (t:Addr) (st:Sk),vs=[.int ((i:Nat):Int),.int ((j:Nat):Int),.ref t]/\SqT K H t (stepV st)/\∀ p,H p=none->Q (.ref p) (upd H p (.tup [.int ((i+(endS st).1:Nat):Int),.int ((j+(endS st).2:Nat):Int)]))
theorem scEnd:FnScope ["i","j","step","moves"] ["i","j","step"] (defScope sEnd):=⟨rfl,rfl,rfl,by decide +kernel,rfl,by decide +kernel,by decide +kernel⟩
def movesK (a b c d e f:Addr):List (Key × V):=[(Sum.inr (Str.ofString "keep"),.ref a),(Sum.inr (Str.ofString "turn"),.ref b),(Sum.inr (Str.ofString "lose"),.ref c),(Sum.inr (Str.ofString "add"),.ref d),(Sum.inr (Str.ofString "twice"),.ref e),(Sum.inr (Str.ofString "swap"),.ref f)]
theorem moves_all (a b c d e f:Addr):valV (mergeK [] (movesK a b c d e f)) (Sum.inr (Str.ofString "keep"))=some (.ref a)/\valV (mergeK [] (movesK a b c d e f)) (Sum.inr (Str.ofString "turn"))=some (.ref b)/\valV (mergeK [] (movesK a b c d e f)) (Sum.inr (Str.ofString "lose"))=some (.ref c)/\valV (mergeK [] (movesK a b c d e f)) (Sum.inr (Str.ofString "add"))=some (.ref d)/\valV (mergeK [] (movesK a b c d e f)) (Sum.inr (Str.ofString "twice"))=some (.ref e)/\valV (mergeK [] (movesK a b c d e f)) (Sum.inr (Str.ofString "swap"))=some (.ref f):=
 ⟨rfl,rfl,rfl,rfl,rfl,rfl⟩
theorem ok_end {f:Addr} {fd:FuncData} (F:Fun K "_law_end" "_law_end" sEnd f fd):FnOk P w K mg base CX0 1 f fd ["i","j","step"] (spEnd K):=by
 refine Fun.okR F scEnd (fun vs H Q E h=>?_) (fun cdv A outer s H vs Q Q2 E hr h hq=>?_)
 ·obtain ⟨i,j,t,st,rfl,_⟩:=h
  rfl
 ·obtain ⟨i,j,t,st,rfl,ht,q⟩:=h
  rw [body_end]
  have hm:∀ X,PE X movesE (tDisp trM):=fun X=>@pe_movesE X
  have hsw:∀ X:Cx,swapsWith movesE (some (.Name "moves" ⟨252,4,252,9⟩)) (Pos.line ⟨252,4,252,108⟩) X.env=pure false:=fun X=>@sw_movesE X
  generalize movesE=mvE at hm hsw
  refine ⟨_,pss_cons (ps_set (i:=3) scEnd.nd rfl (Or.inl rfl) (hm _) (hsw _))
   (pss_cons (ps_if (pt_cmpR op_eq (pe_ix ix_tup (pv 2) pe_int (fun _ _=>rfl)) pe_str (nomark _)) (pss_one (ps_ret (pe_tup (pa_cons (pe_op op_add (pv 0) (pe_ix ix_tup (pv 2) pe_int (fun _ _=>rfl))) (pa_cons (pv 1) pa_nil))))) pss_nil)
   (pss_one (ps_ret (pe_tup (pa_cons (pe_op op_add (pv 0) (pe_ix ix_tup (pe_dat (pv 3) (pe_ix ix_tup (pv 2) pe_int (fun _ _=>rfl)) (fun _ _=>rfl)) pe_int (fun _ _=>rfl))) (pa_cons (pe_op op_add (pv 1) (pe_ix ix_tup (pe_dat (pv 3) (pe_ix ix_tup (pv 2) pe_int (fun _ _=>rfl)) (fun _ _=>rfl)) pe_int (fun _ _=>rfl))) pa_nil)))))),?_⟩
  intro d hd
  have Z:∀ n:Nat,n=2->n<=sizeLine:=fun n e=>few (by omega)
  have T0:=same_upd (o:=.dK []) hd
  refine ⟨Z _ rfl,fun a1 ha1=>⟨Z _ rfl,fun a2 ha2=>⟨Z _ rfl,fun a3 ha3=>⟨Z _ rfl,fun a4 ha4=>⟨Z _ rfl,fun a5 ha5=>⟨Z _ rfl,fun a6 ha6=>?_⟩⟩⟩⟩⟩⟩
  have T1:=same_upd (o:=.tup [.int 1,.int 1]) ha1
  have T2:=same_upd (o:=.tup [.int 1,.int 1]) ha2
  have T3:=same_upd (o:=.tup [.int 1,.int 0]) ha3
  have T4:=same_upd (o:=.tup [.int 0,.int 1]) ha4
  have T5:=same_upd (o:=.tup [.int 0,.int 1]) ha5
  have T6:=same_upd (o:=.tup [.int 2,.int 2]) ha6
  have T16:=((((T1.trans T2).trans T3).trans T4).trans T5).trans T6
  have hd6:=T16 _ _ (upd_same (H:=H) (a:=d) (o:=.dK []))
  have k1:=((((T2.trans T3).trans T4).trans T5).trans T6) _ _ (upd_same (H:=upd H d (.dK [])) (a:=a1) (o:=.tup [.int 1,.int 1]))
  have k2:=(((T3.trans T4).trans T5).trans T6) _ _ (upd_same (a:=a2) (o:=.tup [.int 1,.int 1]))
  have k3:=((T4.trans T5).trans T6) _ _ (upd_same (a:=a3) (o:=.tup [.int 1,.int 0]))
  have k4:=(T5.trans T6) _ _ (upd_same (a:=a4) (o:=.tup [.int 0,.int 1]))
  have k5:=T6 _ _ (upd_same (a:=a5) (o:=.tup [.int 0,.int 1]))
  have k6:=upd_same (H:=upd (upd (upd (upd (upd (upd H d (.dK [])) a1 (.tup [.int 1,.int 1])) a2 (.tup [.int 1,.int 1])) a3 (.tup [.int 1,.int 0])) a4 (.tup [.int 0,.int 1])) a5 (.tup [.int 0,.int 1])) (a:=a6) (o:=.tup [.int 2,.int 2])
  have S6:=T0.trans T16
  refine ⟨hd6,movesK a1 a2 a3 a4 a5 a6,rfl,(by show 6<=15;decide),?_⟩
  generalize upd (upd (upd (upd (upd (upd (upd H d (.dK [])) a1 (.tup [.int 1,.int 1])) a2 (.tup [.int 1,.int 1])) a3 (.tup [.int 1,.int 0])) a4 (.tup [.int 0,.int 1])) a5 (.tup [.int 0,.int 1])) a6 (.tup [.int 2,.int 2])=H6 at hd6 k1 k2 k3 k4 k5 k6 S6
  have S7:Same H (upd H6 d (.dK (mergeK [] (movesK a1 a2 a3 a4 a5 a6)))):=same_to S6 hd
  have h7:upd H6 d (.dK (mergeK [] (movesK a1 a2 a3 a4 a5 a6))) d=some (.dK (mergeK [] (movesK a1 a2 a3 a4 a5 a6))):=upd_same
  have kk:∀ {a:Addr} {xs:List V},H6 a=some (.tup xs)->upd H6 d (.dK (mergeK [] (movesK a1 a2 a3 a4 a5 a6))) a=some (.tup xs):=fun {a xs} h=>by
   rw [upd_ne (ne_of h hd6 (by intro z;cases z))];exact h
  replace k1:=kk k1
  replace k2:=kk k2
  replace k3:=kk k3
  replace k4:=kk k4
  replace k5:=kk k5
  replace k6:=kk k6
  obtain ⟨m1,m2,m3,m4,m5,m6⟩:=moves_all a1 a2 a3 a4 a5 a6
  generalize upd H6 d (.dK (mergeK [] (movesK a1 a2 a3 a4 a5 a6)))=H7 at S7 h7 k1 k2 k3 k4 k5 k6
  have ht7:=sameT S7 ht
  by_cases hsk:∃ n,st=.skip n
  ·obtain ⟨n,rfl⟩:=hsk
   refine ⟨_,rfl,t,_,_,_,rfl,rfl,ht7,atI_nat (j:=0) rfl,rfl,_,rfl,iteY rfl ?_⟩
   refine ⟨_,rfl,_,rfl,t,_,_,_,rfl,rfl,ht7,atI_nat (j:=1) rfl,_,_,rfl,rfl,_,rfl,Z _ rfl,fun p hp=>hq _ _ (Rst.one (S7.trans (same_upd hp)) (S7.free hp) upd_same trivial ?_)⟩
   have:=q p (S7.free hp)
   rw [Int.natCast_add] at this
   exact this
  ·obtain ⟨k,a,x,y,rest,e1,e2,e3,e4,e5⟩:∃ (k:Str) (a:Addr) (x y:Nat) (rest:List V),stepV st=.str k :: rest/\¬ k=Str.ofString "skip"/\valV (mergeK [] (movesK a1 a2 a3 a4 a5 a6)) (Sum.inr k)=some (.ref a)/\H7 a=some (.tup [.int ((x:Nat):Int),.int ((y:Nat):Int)])/\endS st=(x,y):=by
    cases st with
    | keep=>exact ⟨_,a1,1,1,_,rfl,by decide +kernel,m1,k1,rfl⟩
    | turn z=>exact ⟨_,a2,1,1,_,rfl,by decide +kernel,m2,k2,rfl⟩
    | lose=>exact ⟨_,a3,1,0,_,rfl,by decide +kernel,m3,k3,rfl⟩
    | add z=>exact ⟨_,a4,0,1,_,rfl,by decide +kernel,m4,k4,rfl⟩
    | twice=>exact ⟨_,a5,0,1,_,rfl,by decide +kernel,m5,k5,rfl⟩
    | swap=>exact ⟨_,a6,2,2,_,rfl,by decide +kernel,m6,k6,rfl⟩
    | skip n=>exact absurd ⟨n,rfl⟩ hsk
   have e6:atI (stepV st) 0=some (.str k):=atI_nat (j:=0) (by rw [e1];rfl)
   rw [e5] at q
   refine ⟨_,rfl,t,_,_,_,rfl,rfl,ht7,e6,rfl,_,rfl,iteK (fun z=>by injection z with z;exact e2 z) ?_⟩
   refine ⟨_,rfl,_,rfl,_,rfl,t,_,_,_,rfl,rfl,ht7,e6,d,_,Sum.inr k,_,rfl,h7,rfl,e3,a,_,_,_,rfl,rfl,SqT.of e4,atI_nat (j:=0) rfl,_,_,rfl,rfl,_,rfl,_,rfl,_,rfl,t,_,_,_,rfl,rfl,ht7,e6,d,_,Sum.inr k,_,rfl,h7,rfl,e3,a,_,_,_,rfl,rfl,SqT.of e4,atI_nat (j:=1) rfl,_,_,rfl,rfl,Z _ rfl,fun p hp=>hq _ _ (Rst.one (S7.trans (same_upd hp)) (S7.free hp) upd_same trivial ?_)⟩
   have:=q p (S7.free hp)
   rw [Int.natCast_add,Int.natCast_add] at this
   exact this
structure ArmsAt (H:Hp) (as:List Addr) (ws:List Way) (g:Way->Int):Prop where
 len:as.length=ws.length
 item:∀ (k:Nat) (a:Addr) (x:Way),as[k]?=some a->ws[k]?=some x->∃ t e,H a=some (.tup [.ref t,.ref e,.int (g x)])/\H e=some (.tup [.int ((x.2.1:Nat):Int),.int ((x.2.2:Nat):Int)])/\H t=some (.tup (stepV x.1))/\okS x.1
theorem ArmsAt.mono {H H':Hp} {as:List Addr} {ws:List Way} {g:Way->Int} (S:Same H H') (h:ArmsAt H as ws g):ArmsAt H' as ws g:=
 ⟨h.len,fun k a x e1 e2=>by
  obtain ⟨t,e,h1,h2,h3,h4⟩:=h.item k a x e1 e2
  exact ⟨t,e,S _ _ h1,S _ _ h2,S _ _ h3,h4⟩⟩
def spArms (K:PySem.W.Frag):Sp:=fun vs H Q _=>∃ (p q r:Addr) (es cs:List Str) (pr:List Int) (i j:Nat),vs=[.ref p,.ref q,.ref r,.int ((i:Nat):Int),.int ((j:Nat):Int)]/\SqT K H p (es.map V.str)/\SqT K H q (cs.map V.str)/\SqT K H r (pr.map V.int)/\(∀ z ∈ es,Good z)/\(∀ z ∈ cs,Good z)/\i<=es.length/\j<=cs.length/\es.length<=100/\pr.length=7 ∧
 ∀ (H':Hp) (l:Addr) (as:List Addr),Same H H'->H' l=some (.lst (as.map V.ref))->ArmsAt H' as (ways es cs i j) (fun x=>price es i pr x.1)->Q (.ref l) H'
theorem scArms:FnScope ["elder","copy","prices","i","j","arms","step"] ["elder","copy","prices","i","j"] (defScope sArms):=⟨rfl,rfl,rfl,by decide +kernel,rfl,by decide +kernel,by decide +kernel⟩
theorem ok_arms {f gS gE gP:Addr} {fd dS dE dP:FuncData} (F:Fun K "_law_arms" "_law_arms" sArms f fd) (DS:Dfn K mg "_law_steps" sLSteps gS dS ["elder","copy","i","j"]) (GS:FnOk P w K mg base CX0 2 gS dS ["elder","copy","i","j"] (spLSt K)) (DE:Dfn K mg "_law_end" sEnd gE dE ["i","j","step"]) (DP:Dfn K mg "_law_price" sLPrice gP dP ["elder","i","step","prices"]) (GP:FnOk P w K mg base CX0 2 gP dP ["elder","i","step","prices"] (spPrice K)):FnOk P w K mg base CX0 3 f fd ["elder","copy","prices","i","j"] (spArms K):=by
 have GE:FnOk P w K mg base CX0 2 gE dE ["i","j","step"] (spEnd K):=(ok_end DE.fn).mono (by decide)
 refine F.ok scArms (fun vs H Q E h=>?_) (fun cdv A outer s H vs Q E hr h=>?_)
 ·obtain ⟨p,q,r,es,cs,pr,i,j,rfl,_⟩:=h
  rfl
 ·obtain ⟨p,q0,r0,es,cs,pr,i,j,rfl,hp,hc,hpr,hge,hgc,hi,hj,hel,h7,q⟩:=h
  refine ⟨_,pss_cons (ps_set (i:=5) scArms.nd rfl (Or.inl rfl) (pe_lst pa_nil))
   (pss_cons (ps_for PassesOwn.never rfl (pi_list (pe_call GS hr (by rfl) DS.at_ DS.fn.kp DS.bn .nil pass0 (pa_cons (pv 0) (pa_cons (pv 1) (pa_cons (pv 3) (pa_cons (pv 4) pa_nil)))))) (pg_name (i:=6) scArms.nd rfl (Or.inl rfl))
    (pss_one (ps_expr (pe_bm PySem.F.plainAttrs_list PySem.F.slot_list_append PySem.F.type_list_append mt_append (pv 5) (pa_cons (pe_tup (pa_cons (pv 6) (pa_cons (pe_call GE hr (by rfl) DE.at_ DE.fn.kp DE.bn .nil pass0 (pa_cons (pv 3) (pa_cons (pv 4) (pa_cons (pv 6) pa_nil)))) (pa_cons (pe_call GP hr (by rfl) DP.at_ DP.fn.kp DP.bn .nil pass0 (pa_cons (pv 0) (pa_cons (pv 3) (pa_cons (pv 6) (pa_cons (pv 2) pa_nil))))) pa_nil)))) pa_nil)))))
   (pss_one (ps_ret (pv 5)))),?_⟩
  refine ⟨Nat.zero_le _,fun l hl=>?_⟩
  have S0:=same_upd (o:=.lst []) hl
  refine ⟨_,rfl,_,rfl,_,rfl,_,rfl,p,q0,es,cs,i,j,rfl,sameT S0 hp,sameT S0 hc,hi,hj,by omega,hgc,fun H1 ls ts S1 hls hT=>?_⟩
  have hok:=ways_ok (i:=i) (j:=j) (es:=es) hgc (by omega)
  have htn:∀ x ∈ ways es cs i j,turnOk es i x.1:=fun x hx=>by
   cases hx1:x.1 with
   | turn z=>exact ways_turn hx hx1
   | _=>trivial
  have hend:∀ x ∈ ways es cs i j,_:=fun x hx=>ways_end hx
  have hwl:=ways_few (es:=es) (cs:=cs) (i:=i) (j:=j) (by omega)
  generalize ways es cs i j=ws at hT hok htn hend hwl q
  have htl:ts.length=ws.length:=by rw [hT.len,List.length_map]
  have S01:=S0.trans S1
  have hl1:=S1 _ _ (upd_same (H:=H) (a:=l) (o:=.lst []))
  have nls:ls ≠ l\/ts=[]:=by
   by_cases e:ls=l
   ·right
    rw [e,hl1] at hls
    injection hls with h1
    injection h1 with h2
    exact List.map_eq_nil_iff.mp h2.symm
   ·exact .inl e
  refine ⟨ls,rfl,⟨_,SqL.of hls⟩,for_list (K:=K) (a:=ls) (xs:=ts.map V.ref) (fun k σ H2=>∃ (as:List Addr) (v6:Option V),σ=[some (.ref p),some (.ref q0),some (.ref r0),some (.int ((i:Nat):Int)),some (.int ((j:Nat):Int)),some (.ref l),v6]/\H2 l=some (.lst (as.map V.ref))/\(k=0\/ts ≠ [])/\H2 ls=some (.lst (ts.map V.ref))/\TupsAt H2 ts (ws.map (·.1))/\Same H H2/\ArmsAt H2 as (ws.take k) (fun x=>price es i pr x.1))
   ⟨[],none,rfl,hl1,.inl rfl,hls,hT,S01,rfl,fun k a x e=>by simp at e⟩ (fun k σ H2 _ ⟨_,_,_,_,_,h,_⟩=>SqL.of h) ?_ ?_⟩
  ·rintro k y σ H2 hk ⟨as,v6,rfl,h2,_,hls2,hT2,S2,hA⟩
   obtain ⟨t,htk,rfl⟩:=ref_at hk
   have hne:ts ≠ []:=fun z=>by rw [z] at htk;simp at htk
   have nl:ls ≠ l:=nls.resolve_right hne
   have hkl:k < ws.length:=by rw [<-htl];exact (List.getElem?_eq_some_iff.mp htk).1
   have hwk:ws[k]?=some ws[k]:=List.getElem?_eq_getElem hkl
   obtain ⟨ht2,hok2⟩:=hT2.item k t ws[k].1 htk (by rw [List.getElem?_map,hwk];rfl)
   have hxm:ws[k] ∈ ws:=List.getElem_mem hkl
   have hx1:=hok _ hxm
   have hx2:=htn _ hxm
   have hx3:=hend _ hxm
   have htake:ws.take (k+1)=ws.take k++[ws[k]]:=List.take_succ_eq_append_getElem hkl
   generalize ws[k]=x at *
   refine ⟨_,rfl,.inl ⟨rfl,_,SqL.of h2⟩,_,rfl,_,rfl,_,rfl,_,rfl,i,j,t,x.1,rfl,SqT.of ht2,fun e he=>?_⟩
   have S3:=same_upd (o:=.tup [.int ((i+(endS x.1).1:Nat):Int),.int ((j+(endS x.1).2:Nat):Int)]) he
   have S23:=S2.trans S3
   refine ⟨_,rfl,_,rfl,_,rfl,_,rfl,p,t,r0,es,i,x.1,pr,rfl,sameT S23 hp,hge,SqT.of (S3 _ _ ht2),hx1,hx2,sameT S23 hpr,h7,few (by show 3<=_;omega),fun a ha=>?_⟩
   have S4:=same_upd (o:=.tup [.ref t,.ref e,.int (price es i pr x.1)]) ha
   have S34:=S3.trans S4
   have he4:=S4 _ _ (upd_same (H:=H2) (a:=e) (o:=.tup [.int ((i+(endS x.1).1:Nat):Int),.int ((j+(endS x.1).2:Nat):Int)]))
   have ha4:=upd_same (H:=upd H2 e (.tup [.int ((i+(endS x.1).1:Nat):Int),.int ((j+(endS x.1).2:Nat):Int)])) (a:=a) (o:=.tup [.ref t,.ref e,.int (price es i pr x.1)])
   generalize upd (upd H2 e (.tup [.int ((i+(endS x.1).1:Nat):Int),.int ((j+(endS x.1).2:Nat):Int)])) a (.tup [.ref t,.ref e,.int (price es i pr x.1)])=H4 at S34 he4 ha4
   rw [<-hx3.1,<-hx3.2] at he4
   have h4:=S34 _ _ h2
   have keep:∀ {b:Addr} {ys zs:List V},H4 b=some (.tup ys)->upd H4 l (.lst zs) b=some (.tup ys):=fun {b ys zs} h=>by
    rw [upd_ne (ne_of h h4 (by intro z;cases z))];exact h
   have hal:as.length=k:=by rw [hA.len,List.length_take];omega
   refine ⟨l,_,_,rfl,rfl,h4,(by rw [List.length_map,hal];exact fewer (by omega)),as++[a],_,rfl,by rw [upd_same,List.map_append];rfl,.inr hne,by rw [upd_ne nl];exact S34 _ _ hls2,(hT2.mono S34).set h4,same_to (S2.trans S34) hl,?_⟩
   rw [htake]
   refine ⟨by rw [List.length_append,List.length_append,hA.len];rfl,fun n b y hb hy=>?_⟩
   by_cases hn:n < as.length
   ·rw [List.getElem?_append_left hn] at hb
    rw [List.getElem?_append_left (by rw [<-hA.len];exact hn)] at hy
    obtain ⟨t',e',h1,h2,h3,h4⟩:=(hA.mono S34).item n b y hb hy
    exact ⟨t',e',keep h1,keep h2,keep h3,h4⟩
   ·have hn0:n - as.length=0:=by
     rw [List.getElem?_append_right (by omega)] at hb
     have:=(List.getElem?_eq_some_iff.mp hb).1
     simp at this
     omega
    rw [List.getElem?_append_right (by omega),hn0] at hb
    rw [List.getElem?_append_right (by rw [<-hA.len];omega),<-hA.len,hn0] at hy
    have e1:a=b:=by simpa using hb
    have e2:x=y:=by simpa using hy
    subst e1 e2
    exact ⟨t,e,keep ha4,keep he4,keep (S34 _ _ ht2),hok2⟩
  ·rintro σ H2 ⟨as,v6,rfl,h2,_,hls2,hT2,S2,hA⟩
   rw [List.length_map,htl,List.take_length] at hA
   exact ⟨_,rfl,q _ l as S2 h2 hA⟩
theorem knot_in {m n k:Nat} (h:k < (m+1) * (n+1)):k / (n+1)<=m/\k % (n+1)<=n:=by
 have h1:k / (n+1) < m+1:=Nat.div_lt_of_lt_mul (by rw [Nat.mul_comm];exact h)
 have h2:=Nat.mod_lt k (show 0 < n+1 by omega)
 omega
def kp (i j:Nat):List Key:=[Sum.inl ((i:Nat):Int),Sum.inl ((j:Nat):Int)]
theorem kp_inj {i j a b:Nat} (h:kp i j=kp a b):i=a/\j=b:=by
 unfold kp at h
 injection h with h1 h2
 injection h2 with h2 _
 injection h1 with h1
 injection h2 with h2
 omega
theorem code_lt {m n i j:Nat} (hi:i<=m) (hj:j<=n):i * (n+1)+j < (m+1) * (n+1):=by
 have h1:i * (n+1)<=m * (n+1):=Nat.mul_le_mul_right _ hi
 rw [Nat.succ_mul]
 omega
theorem code_div {n i j:Nat} (hj:j<=n):(i * (n+1)+j) / (n+1)=i/\(i * (n+1)+j) % (n+1)=j:=by
 have h:j < n+1:=by omega
 refine ⟨?_,?_⟩
 ·rw [Nat.mul_comm,Nat.mul_add_div (by omega),Nat.div_eq_of_lt h];rfl
 ·rw [Nat.mul_comm,Nat.mul_add_mod,Nat.mod_eq_of_lt h]
def Sx (d:Addr) (H H':Hp):Prop:=∀ a o,a ≠ d->H a=some o->H' a=some o
theorem Sx.trans {d:Addr} {H H' H'':Hp} (a:Sx d H H') (b:Sx d H' H''):Sx d H H'':=fun c o n e=>b c o n (a c o n e)
theorem Sx.of {d:Addr} {H H':Hp} (S:Same H H'):Sx d H H':=fun c o _ e=>S c o e
theorem Sx.upd {d:Addr} {H:Hp} {o:HO}:Sx d H (upd H d o):=fun c o n e=>by rw [upd_ne n];exact e
theorem tup_dp {P:Program} {w:World} {H:Hp} {a d:Addr} {xs:List V} {ys:List Pk} (h:H a=some (.tup xs)) (h2:H d=some (DP P w d ys)):a ≠ d:=ne_of h h2 (fun z=>nomatch (show HO.tup xs=HO.ext _ from z))
theorem lst_dp {P:Program} {w:World} {H:Hp} {a d:Addr} {xs:List V} {ys:List Pk} (h:H a=some (.lst xs)) (h2:H d=some (DP P w d ys)):a ≠ d:=ne_of h h2 (fun z=>nomatch (show HO.lst xs=HO.ext _ from z))
theorem code_ord {n i j a b:Nat} (hj:j<=n) (hb:b<=n):(i < a\/(a=i/\j < b)) ↔ i * (n+1)+j < a * (n+1)+b:=by
 constructor
 ·rintro (h | ⟨rfl,h⟩)
  ·have:(i+1) * (n+1)<=a * (n+1):=Nat.mul_le_mul_right _ h
   rw [Nat.succ_mul] at this
   omega
  ·omega
 ·intro h
  rcases Nat.lt_trichotomy i a with c | c | c
  ·exact .inl c
  ·subst c
   exact .inr ⟨rfl,by omega⟩
  ·have:(a+1) * (n+1)<=i * (n+1):=Nat.mul_le_mul_right _ c
   rw [Nat.succ_mul] at this
   omega
theorem zip1 {α β:Type} (f:α->V):∀ {xs:List α} {ys:List β},xs.length=ys.length->(xs.zip ys).map (fun x=>f x.1)=xs.map f
 | [],_,_=>by simp
 | x :: xs,[],h=>by simp at h
 | x :: xs,y :: ys,h=>by
  rw [List.zip_cons_cons,List.map_cons,List.map_cons,zip1 f (by simpa using h)]
theorem zip2 {α β γ:Type} (f:β->γ):∀ {xs:List α} {ys:List β},xs.length=ys.length->(xs.zip ys).map (fun x=>f x.2)=ys.map f
 | [],[],_=>by simp
 | [],y :: ys,h=>by simp at h
 | x :: xs,[],h=>by simp at h
 | x :: xs,y :: ys,h=>by
  rw [List.zip_cons_cons,List.map_cons,List.map_cons,zip2 f (by simpa using h)]
def Holds (m n:Nat) (ys:List Pk) (T:Tb):Prop:=∀ i j,i<=m->j<=n->valP ys (kp i j)=(T i j).map V.int
theorem Holds.put {m n i j:Nat} {ys:List Pk} {T:Tb} {b:Addr} {v:Int} (h:Holds m n ys T):Holds m n (putP ys (kp i j) b (.int v)) (T.put i j v):=fun a c ha hc=>by
 rw [valP_put]
 by_cases e:a=i/\c=j
 ·obtain ⟨rfl,rfl⟩:=e
  rw [if_pos rfl,Tb.put_same]
  rfl
 ·rw [if_neg (fun z=>e (kp_inj z)),Tb.put_ne _ _ e]
  exact h a c ha hc
def spLRest (P:Program) (w:World) (K:PySem.W.Frag):Sp:=fun vs H Q _=>∃ (p q r:Addr) (es cs:List Str) (pr:List Int),vs=[.ref p,.ref q,.ref r]/\SqT K H p (es.map V.str)/\SqT K H q (cs.map V.str)/\SqT K H r (pr.map V.int)/\(∀ z ∈ es,Good z)/\(∀ z ∈ cs,Good z)/\es.length<=40/\cs.length<=40/\pr.length=7 ∧
 ∀ (H':Hp) (d:Addr) (ys:List Pk) (R:Nat->Nat->Int),Same H H'->H' d=some (DP P w d ys)->KeysAt H' ys->(∀ i j,i<=es.length->j<=cs.length->valP ys (kp i j)=some (.int (R i j)))->Rest (fun i st=>price es i pr st) es.length cs.length (ways es cs) R->Q (.ref d) H'
theorem scLRest:FnScope ["elder","copy","prices","rest","knot","ways"] ["elder","copy","prices"] (defScope sLRest):=⟨rfl,rfl,rfl,by decide +kernel,rfl,by decide +kernel,by decide +kernel⟩
theorem nd_ar:(["arm","rest"]:List Str).Nodup:=by decide +kernel
theorem ok_lrest {f gK gA:Addr} {fd dK dA:FuncData} (F:Fun K "_law_rest" "_law_rest" sLRest f fd) (DK:Dfn K mg "_law_knots" sKnots gK dK ["elder","copy"]) (GK:FnOk P w K mg base CX0 3 gK dK ["elder","copy"] (spKnO K)) (DA:Dfn K mg "_law_arms" sArms gA dA ["elder","copy","prices","i","j"]) (GA:FnOk P w K mg base CX0 3 gA dA ["elder","copy","prices","i","j"] (spArms K)) (mmin:mg "min" = none) (mrev:mg "reversed" = none):FnOk P w K mg base CX0 4 f fd ["elder","copy","prices"] (spLRest P w K):=by
 refine F.ok scLRest (fun vs H Q E h=>?_) (fun cdv A outer s H vs Q E hr h=>?_)
 ·obtain ⟨p,q,r,es,cs,pr,rfl,_⟩:=h
  rfl
 ·obtain ⟨p,q0,r0,es,cs,pr,rfl,hp,hc,hpr,hge,hgc,hel,hcl,h7,q⟩:=h
  refine ⟨_,pss_cons (ps_set (i:=3) scLRest.nd rfl (Or.inr rfl) pe_dnewP)
   (pss_cons (ps_for PassesOwn.never rfl (pi_rev (by rfl) mrev (pa_cons (pe_call GK hr (by rfl) DK.at_ DK.fn.kp DK.bn .nil pass0 (pa_cons (pv 0) (pa_cons (pv 1) pa_nil))) pa_nil)) (pg_name (i:=4) scLRest.nd rfl (Or.inl rfl))
   (pss_cons (ps_setC (i:=5) (Nc:=["arm","rest"]) (mp:=[none,some 3]) rfl scLRest.nd rfl rfl (CompOk.of (by rfl)) (pi_list (pe_call GA hr (by rfl) DA.at_ DA.fn.kp DA.bn .nil pass0 (pa_cons (pv 0) (pa_cons (pv 1) (pa_cons (pv 2) (pa_cons (pe_ix ix_tup (pv 4) pe_int (fun _ _=>rfl)) (pa_cons (pe_ix ix_tup (pv 4) pe_int (fun _ _=>rfl)) pa_nil))))))) (fun cl C s H fp=>⟨pg_name (i:=0) nd_ar rfl (Or.inl rfl),pts_nil,(pe_op op_add (pe_ix (ix_tupK (K:=K) rfl) (pv 0) pe_int (fun _ _=>rfl)) (pe_datP rfl rfl hr.units (pv 1) (pe_ix (ix_tupK (K:=K) rfl) (pv 0) pe_int (fun _ _=>rfl)) (fun _ _=>rfl)))⟩))
   (pss_one (ps_asg (pe_minD rfl (by rfl) mmin (pv 5)) (pg_sub (pv 3) (pv 4) (set_dictP hr.units))))))
   (pss_one (ps_ret (pv 3)))),?_⟩
  have hle:(es.map V.str).length=es.length:=List.length_map ..
  have hlc:(cs.map V.str).length=cs.length:=List.length_map ..
  refine fun d hd=>?_
  have S0:=same_upd (o:=DP P w d []) hd
  refine ⟨_,rfl,_,rfl,p,q0,_,_,rfl,sameT S0 hp,sameT S0 hc,by omega,by omega,fun H1 lk ks S1 hlk hkl hk=>?_⟩
  rw [hle,hlc] at hkl
  rw [hlc] at hk
  have h1d:=S1 _ _ (upd_same (H:=H) (a:=d) (o:=DP P w d []))
  have n1:=lst_dp hlk h1d
  have lks:(ks.map V.ref).length=(es.length+1) * (cs.length+1):=by rw [List.length_map];exact hkl
  have hNs:(es.length+1) * (cs.length+1)<=41 * 41:=Nat.mul_le_mul (by omega) (by omega)
  refine ⟨lk,_,rfl,SqL.of hlk,for_rev (K:=K) (a:=lk) (xs:=ks.map V.ref) (fun t σ H2=>∃ (ys:List Pk) (T:Tb) (v4 v5:Option V),σ=[some (.ref p),some (.ref q0),some (.ref r0),some (.ref d),v4,v5]/\H2 d=some (DP P w d ys)/\KeysAt H2 ys/\ys.length<=t/\Holds es.length cs.length ys T/\(∀ a b,a<=es.length->b<=cs.length->(es.length+1) * (cs.length+1)<=a * (cs.length+1)+b+t->RestAt (fun i st=>price es i pr st) (ways es cs) T a b)/\Sx d H1 H2/\Same H H2)
   ⟨[],fun _ _=>none,none,none,rfl,h1d,(fun _ z=>nomatch z),Nat.le_refl _,(fun _ _ _ _=>rfl),(fun a b ha hb h=>absurd h (by have:=code_lt ha hb;omega)),Sx.of (Same.refl _),S0.trans S1⟩ (fun t σ H2 _ ⟨_,_,_,_,_,_,_,_,_,_,Sxx,_⟩=>SqL.of (Sxx _ _ n1 hlk)) ?_ ?_⟩
  ·rintro t y σ H2 ht hy ⟨ys,T,v4,v5,rfl,h2d,hkk,hyl,hHo,hRt,X2,S2⟩
   rw [lks] at ht hy
   obtain ⟨a,hna,rfl⟩:=ref_at hy
   have hnl:(es.length+1) * (cs.length+1) - 1 - t < (es.length+1) * (cs.length+1):=by omega
   obtain ⟨hi,hj⟩:=knot_in hnl
   have h1a:=hk _ a hna
   have ha:=X2 _ _ (tup_dp h1a h1d) h1a
   unfold knotV at ha
   have ecode:((es.length+1) * (cs.length+1) - 1 - t) / (cs.length+1) * (cs.length+1)+((es.length+1) * (cs.length+1) - 1 - t) % (cs.length+1)+t+1=(es.length+1) * (cs.length+1):=by
    have:=Nat.div_add_mod ((es.length+1) * (cs.length+1) - 1 - t) (cs.length+1)
    rw [Nat.mul_comm] at this
    omega
   generalize ((es.length+1) * (cs.length+1) - 1 - t) / (cs.length+1)=i at ha hi ecode
   generalize ((es.length+1) * (cs.length+1) - 1 - t) % (cs.length+1)=j at ha hj ecode
   have hRI:RestI (fun i st=>price es i pr st) es.length cs.length (ways es cs) i j T:=fun x y hx hy h=>hRt x y hx hy (by have:=(code_ord hj hy).mp h;omega)
   refine ⟨_,rfl,_,rfl,_,rfl,_,rfl,a,_,_,_,rfl,rfl,SqT.of ha,rfl,_,rfl,a,_,_,_,rfl,rfl,SqT.of ha,rfl,p,q0,r0,es,cs,pr,i,j,rfl,sameT S2 hp,sameT S2 hc,sameT S2 hpr,hge,hgc,hi,hj,by omega,h7,fun H4 la as S4 hla hA=>?_⟩
   have hwl:=ways_few (es:=es) (cs:=cs) (i:=i) (j:=j) (by omega)
   have hfw:=ways_fwd es cs i j hi hj
   have hend:∀ x ∈ ways es cs i j,∃ u,T x.2.1 x.2.2=some u:=fun x hx=>hRI.ends (ways_fwd es cs) hi hj hx
   have hput:=hRI.put (ways_fwd es cs) hi hj
   generalize hws:ways es cs i j=ws at hA hwl hfw hend hput
   have h4d:=S4 _ _ h2d
   have hk4:KeysAt H4 ys:=fun y hy=>S4 _ _ (hkk y hy)
   have hlz:H4 la=some (.lst ((as.zip ws).map fun x=>V.ref x.1)):=by rw [zip1 V.ref hA.len];exact hla
   refine ⟨la,rfl,⟨_,SqL.of hlz⟩,comp_map (as:=as.zip ws) (v:=fun x=>V.ref x.1) (fun x=>.int (price es i pr x.2.1+(T x.2.2.1 x.2.2.2).getD 0)) (src_list (SqL.of hlz)) (by rw [List.length_zip,hA.len];exact few (by omega)) (fun x hx kc hkc=>?_) (fun D hD=>?_)⟩
   ·obtain ⟨k,hkz⟩:=List.mem_iff_getElem?.mp hx
    obtain ⟨z1,z2⟩:=List.getElem?_zip_eq_some.mp hkz
    obtain ⟨tt,e,hb,he,_,_⟩:=hA.item k _ _ z1 z2
    have hxm:=List.mem_of_getElem? z2
    obtain ⟨u,hu⟩:=hend _ hxm
    have hw:=hfw _ hxm
    refine ⟨_,rfl,x.1,_,_,_,rfl,rfl,SqT.of hb,atI_nat (j:=2) rfl,_,rfl,_,rfl,x.1,_,_,_,rfl,rfl,SqT.of hb,atI_nat (j:=1) rfl,d,ys,kp x.2.2.1 x.2.2.2,e,.int u,rfl,rfl,h4d,hk4,he,(by rw [hHo _ _ hw.1 hw.2.1,hu];rfl),_,_,rfl,rfl,?_⟩
    rw [hu] at hkc
    exact hkc
   have SD:=same_upd (o:=.lst ((as.zip ws).map fun x=>V.int (price es i pr x.2.1+(T x.2.2.1 x.2.2.2).getD 0))) hD
   have hDl:upd H4 D (.lst ((as.zip ws).map fun x=>V.int (price es i pr x.2.1+(T x.2.2.1 x.2.2.2).getD 0))) D=some (.lst ((ws.map fun x=>price es i pr x.1+(T x.2.1 x.2.2).getD 0).map V.int)):=by
    rw [upd_same,List.map_map,zip2 (fun x:Way=>V.int (price es i pr x.1+(T x.2.1 x.2.2).getD 0)) hA.len]
    rfl
   have h5d:=SD _ _ h4d
   have hk5:KeysAt (upd H4 D (.lst ((as.zip ws).map fun x=>V.int (price es i pr x.2.1+(T x.2.2.1 x.2.2.2).getD 0)))) ys:=fun y hy=>SD _ _ (hk4 y hy)
   have ha5:=SD _ _ (S4 _ _ ha)
   have S5:=(S2.trans S4).trans SD
   have X5:Sx d H1 (upd H4 D (.lst ((as.zip ws).map fun x=>V.int (price es i pr x.2.1+(T x.2.2.1 x.2.2.2).getD 0)))):=X2.trans (Sx.of (S4.trans SD))
   generalize upd H4 D (.lst ((as.zip ws).map fun x=>V.int (price es i pr x.2.1+(T x.2.2.1 x.2.2.2).getD 0)))=H5 at SD hDl h5d hk5 ha5 S5 X5
   have hnd:∀ o c zs,H5 c=some (.tup zs)->upd H5 d o c=some (.tup zs):=fun o c zs h=>by rw [upd_ne (tup_dp h h5d)];exact h
   have hnext:∀ m:Int,m=leastOf (ws.map fun x=>price es i pr x.1+(T x.2.1 x.2.2).getD 0)->∀ a b,a<=es.length->b<=cs.length->(es.length+1) * (cs.length+1)<=a * (cs.length+1)+b+(t+1)->RestAt (fun i st=>price es i pr st) (ways es cs) (T.put i j m) a b:=fun m em x y hx hy h=>by
    rw [em]
    refine hput x y hx hy ?_
    rcases Nat.lt_or_ge (i * (cs.length+1)+j) (x * (cs.length+1)+y) with c | c
    ·rcases (code_ord hj hy).mpr c with z | ⟨z1,z2⟩
     ·exact .inl z
     ·exact .inr ⟨z1,by omega⟩
    ·have e1:=code_div (i:=x) hy
     have e2:=code_div (i:=i) hj
     have ee:x * (cs.length+1)+y=i * (cs.length+1)+j:=by omega
     rw [ee] at e1
     exact .inr ⟨e1.1.symm.trans e2.1,Nat.le_of_eq (e2.2.symm.trans e1.2)⟩
   have fin:∀ m:Int,m=leastOf (ws.map fun x=>price es i pr x.1+(T x.2.1 x.2.2).getD 0)->_:=fun m em=>(show ∃ (ys':List Pk) (T':Tb),putP ys (kp i j) a (.int m)=ys'/\Holds es.length cs.length ys' T'/\ys'.length<=t+1/\(∀ a b,a<=es.length->b<=cs.length->(es.length+1) * (cs.length+1)<=a * (cs.length+1)+b+(t+1)->RestAt (fun i st=>price es i pr st) (ways es cs) T' a b) from ⟨_,T.put i j m,rfl,hHo.put,by have:=putP_len ys (kp i j) a (.int m);omega,hnext m em⟩)
   refine ⟨_,rfl,D,_,rfl,SqL.of hDl,fun e0=>?_,fun m hm hle'=>?_⟩
   ·obtain ⟨ys',T',ey,hT',hyl',hR'⟩:=fin 0 (by rw [e0];rfl)
    refine ⟨_,rfl,_,rfl,d,ys,kp i j,a,rfl,rfl,h5d,hk5,ha5,fewer (by omega),?_⟩
    rw [<-ey] at hT' hyl'
    exact ⟨_,T',_,_,rfl,upd_same,hk5.put ha5 (hnd _),hyl',hT',hR',X5.trans Sx.upd,same_to S5 hd⟩
   ·have em:m=leastOf (ws.map fun x=>price es i pr x.1+(T x.2.1 x.2.2).getD 0):=by
     have h1:=leastOf_le hm
     have h2:=hle' _ (leastOf_mem (fun z=>by rw [z] at hm;cases hm))
     omega
    obtain ⟨ys',T',ey,hT',hyl',hR'⟩:=fin m em
    refine ⟨_,rfl,_,rfl,d,ys,kp i j,a,rfl,rfl,h5d,hk5,ha5,fewer (by omega),?_⟩
    rw [<-ey] at hT' hyl'
    exact ⟨_,T',_,_,rfl,upd_same,hk5.put ha5 (hnd _),hyl',hT',hR',X5.trans Sx.upd,same_to S5 hd⟩
  ·rintro σ H2 ⟨ys,T,v4,v5,rfl,h2d,hkk,hyl,hHo,hRt,X2,S2⟩
   rw [lks] at hRt
   obtain ⟨hall,hL⟩:=rest_of (fun a b ha hb=>hRt a b ha hb (by omega)) (ways_none es cs) (fun i j hi hj hn=>ways_some es cs hi hj hn)
   refine ⟨_,rfl,q _ d ys (fun i j=>(T i j).getD 0) S2 h2d hkk (fun i j hi hj=>?_) hL⟩
   obtain ⟨v,hv⟩:=hall i j hi hj
   rw [hHo i j hi hj,hv]
   rfl
def cheap (es cs:List Str) (pr:List Int) (R:Nat->Nat->Int) (i j:Nat):List Way:=(ways es cs i j).filter fun x=>decide (price es i pr x.1+R x.2.1 x.2.2=R i j)
def Told (es cs:List Str) (pr:List Int) (R:Nat->Nat->Int):Nat->Nat->List Sk->Prop
 | i,j,[]=>i=es.length/\j=cs.length
 | i,j,st :: r=>∃ x,(cheap es cs pr R i j).head?=some x/\x.1=st/\Told es cs pr R x.2.1 x.2.2 r
theorem eqL2 (a b c d:Nat):eqL [.int ((a:Nat):Int),.int ((b:Nat):Int)] [.int ((c:Nat):Int),.int ((d:Nat):Int)]=decide (a=c/\b=d):=by
 show (decide (((a:Nat):Int)=((c:Nat):Int)) && (decide (((b:Nat):Int)=((d:Nat):Int)) && true))=_
 rw [Bool.and_true,Bool.eq_iff_iff,Bool.and_eq_true,decide_eq_true_iff,decide_eq_true_iff,decide_eq_true_iff]
 omega
theorem zipf {as:List Addr} {ws:List Way} (f:Way->Bool) (h:as.length=ws.length):((as.zip ws).filter fun x=>f x.2).map (fun x=>x.2)=ws.filter f:=by
 have e:(as.zip ws).map (fun x=>x.2)=ws:=by
  have:=zip2 (fun x:Way=>x) h
  rw [List.map_id'] at this
  exact this
 rw [<-e,List.filter_map]
 rw [e]
 rfl
def spLTold (P:Program) (w:World) (K:PySem.W.Frag):Sp:=fun vs H Q _=>∃ (p q r d:Addr) (es cs:List Str) (pr:List Int) (ys:List Pk) (R:Nat->Nat->Int),vs=[.ref p,.ref q,.ref r,.ref d]/\SqT K H p (es.map V.str)/\SqT K H q (cs.map V.str)/\SqT K H r (pr.map V.int)/\(∀ z ∈ es,Good z)/\(∀ z ∈ cs,Good z)/\es.length<=40/\cs.length<=40/\pr.length=7/\H d=some (DP P w d ys)/\KeysAt H ys/\(∀ i j,i<=es.length->j<=cs.length->valP ys (kp i j)=some (.int (R i j)))/\Rest (fun i st=>price es i pr st) es.length cs.length (ways es cs) R ∧
 ∀ (H':Hp) (t:Addr) (ts:List Addr) (sts:List Sk),Same H H'->H' t=some (.tup (ts.map V.ref))->TupsAt H' ts sts->Told es cs pr R 0 0 sts->sts.length<=es.length+cs.length->Q (.ref t) H'
theorem scLTold:FnScope ["elder","copy","prices","rest","at","steps","good"] ["elder","copy","prices","rest"] (defScope sLTold):=⟨rfl,rfl,rfl,by decide +kernel,rfl,by decide +kernel,by decide +kernel⟩
theorem nd_ara:(["arm","rest","at"]:List Str).Nodup:=by decide +kernel
theorem ok_ltold {f gA:Addr} {fd dA:FuncData} (F:Fun K "_law_told" "_law_told" sLTold f fd) (DA:Dfn K mg "_law_arms" sArms gA dA ["elder","copy","prices","i","j"]) (GA:FnOk P w K mg base CX0 3 gA dA ["elder","copy","prices","i","j"] (spArms K)) (mlen:mg "len" = none) (mtup:mg "tuple" = none):FnOk P w K mg base CX0 4 f fd ["elder","copy","prices","rest"] (spLTold P w K):=by
 refine F.ok scLTold (fun vs H Q E h=>?_) (fun cdv A outer s H vs Q E hr h=>?_)
 ·obtain ⟨p,q,r,d,es,cs,pr,ys,R,rfl,_⟩:=h
  rfl
 ·obtain ⟨p,q0,r0,d,es,cs,pr,ys,R,rfl,hp,hc,hpr,hge,hgc,hel,hcl,h7,hd,hkk,hval,hR,q⟩:=h
  refine ⟨_,pss_cons (ps_set (i:=4) scLTold.nd rfl (Or.inr rfl) (pe_tup (pa_cons pe_int (pa_cons pe_int pa_nil))))
   (pss_cons (ps_set (i:=5) scLTold.nd rfl (Or.inl rfl) (pe_lst pa_nil))
   (pss_cons (ps_while PassesOwn.never (pt_cmpR (op_neS hr.units) (pv 4) (pe_tup (pa_cons (pe_callB call_len_seq (by rfl) mlen PySem.boot_len (pa_cons (pv 0) pa_nil)) (pa_cons (pe_callB call_len_seq (by rfl) mlen PySem.boot_len (pa_cons (pv 1) pa_nil)) pa_nil))) (nomark _)) (pss_cons (ps_setC (i:=6) (Nc:=["arm","rest","at"]) (mp:=[none,some 3,some 4]) rfl scLTold.nd rfl rfl (CompOk.of (by rfl)) (pi_list (pe_call GA hr (by rfl) DA.at_ DA.fn.kp DA.bn .nil pass0 (pa_cons (pv 0) (pa_cons (pv 1) (pa_cons (pv 2) (pa_cons (pe_ix ix_tup (pv 4) pe_int (fun _ _=>rfl)) (pa_cons (pe_ix ix_tup (pv 4) pe_int (fun _ _=>rfl)) pa_nil))))))) (fun cl C s H fp=>⟨pg_name (i:=0) nd_ara rfl (Or.inl rfl),pts_one (pt_cmpR op_eq (pe_op op_add (pe_ix (ix_tupK (K:=K) rfl) (pv 0) pe_int (fun _ _=>rfl)) (pe_datP rfl rfl hr.units (pv 1) (pe_ix (ix_tupK (K:=K) rfl) (pv 0) pe_int (fun _ _=>rfl)) (fun _ _=>rfl))) (pe_datP rfl rfl hr.units (pv 1) (pv 2) (fun _ _=>rfl)) (nomark _)),(pv 0)⟩))
   (pss_cons (ps_expr (pe_bm PySem.F.plainAttrs_list PySem.F.slot_list_append PySem.F.type_list_append mt_append (pv 5) (pa_cons (pe_ix ix_tup (pe_ix ix_list (pv 6) pe_int (fun _ _=>rfl)) pe_int (fun _ _=>rfl)) pa_nil)))
   (pss_one (ps_set (i:=4) scLTold.nd rfl (Or.inr rfl) (pe_ix ix_tup (pe_ix ix_list (pv 6) pe_int (fun _ _=>rfl)) pe_int (fun _ _=>rfl)))))))
   (pss_one (ps_ret (pe_callTy call_tuple_of (by rfl) mtup boot_tuple (pa_cons (pv 5) pa_nil)))))),?_⟩
  have hle:(es.map V.str).length=es.length:=List.length_map ..
  have hlc:(cs.map V.str).length=cs.length:=List.length_map ..
  refine ⟨few (by show 2<=_;omega),fun e0 he0=>?_⟩
  have T0:=same_upd (o:=.tup [V.int 0,.int 0]) he0
  have h00:upd H e0 (.tup [V.int 0,.int 0]) e0=some (.tup [V.int 0,.int 0]):=upd_same
  generalize upd H e0 (.tup [V.int 0,.int 0])=H0 at T0 h00
  refine ⟨Nat.zero_le _,fun l hl=>?_⟩
  have T1:=same_upd (o:=.lst []) hl
  have hlH:H l=none:=T0.free hl
  obtain ⟨W,hW⟩:∃ W:Nat->L2.St->Hp->Prop,W=fun k σ H3=>∃ (i j:Nat) (e:Addr) (ts:List Addr) (sts:List Sk) (v6:Option V),k=(es.length - i)+(cs.length - j)/\i<=es.length/\j<=cs.length/\σ=[some (.ref p),some (.ref q0),some (.ref r0),some (.ref d),some (.ref e),some (.ref l),v6]/\H3 e=some (.tup [.int ((i:Nat):Int),.int ((j:Nat):Int)])/\H3 l=some (.lst (ts.map V.ref))/\TupsAt H3 ts sts/\sts.length<=i+j/\(∀ r,Told es cs pr R i j r->Told es cs pr R 0 0 (sts++r))/\Same H H3:=⟨_,rfl⟩
  refine ⟨W,⟨(es.length - 0)+(cs.length - 0),by rw [hW];exact ⟨0,0,e0,[],[],none,rfl,Nat.zero_le _,Nat.zero_le _,rfl,T1 _ _ h00,upd_same,TupsAt.nil,Nat.le_refl _,fun r h=>h,T0.trans T1⟩⟩,?_⟩
  intro k σ H3 hk
  rw [hW] at hk
  obtain ⟨i,j,e,ts,sts,v6,rfl,hi,hj,rfl,h3e,h3l,hT,hsl,hto,S3⟩:=hk
  refine ⟨_,rfl,_,rfl,p,_,rfl,.inr (sameT S3 hp),_,rfl,q0,_,rfl,.inr (sameT S3 hc),few (by show 2<=_;omega),fun t4 ht4=>?_⟩
  have T4:=same_upd (o:=.tup [V.int (((es.map V.str).length:Nat):Int),.int (((cs.map V.str).length:Nat):Int)]) ht4
  refine ⟨0,_,by decide,EqS.flats (.inr ⟨SqT.of (T4 _ _ h3e),SqT.of upd_same⟩) rfl rfl,_,rfl,?_⟩
  rw [eqL2,hle,hlc]
  have h4e:=T4 _ _ h3e
  have h4l:=T4 _ _ h3l
  have hT4:=hT.mono T4
  have S4:=S3.trans T4
  rw [hle,hlc] at h4e h4l hT4 S4
  generalize upd H3 t4 (.tup [V.int ((es.length:Nat):Int),.int ((cs.length:Nat):Int)])=H4 at h4e h4l hT4 S4
  by_cases hn:i=es.length/\j=cs.length
  ·rw [decide_eq_true hn]
   refine iteF ?_
   refine ⟨_,rfl,l,_,rfl,.inl ⟨SqL.of h4l,fun t9 ht9=>?_⟩⟩
   have T9:=same_upd (o:=.tup (ts.map V.ref)) ht9
   obtain ⟨rfl,rfl⟩:=hn
   have ht0:=hto [] ⟨rfl,rfl⟩
   rw [List.append_nil] at ht0
   exact q _ t9 ts sts (S4.trans T9) upd_same (hT4.mono T9) ht0 hsl
  rw [decide_eq_false hn]
  refine iteT ?_
  refine ⟨fun σ' H'=>∃ m',m' < (es.length - i)+(cs.length - j)/\W m' σ' H',fun _ _ z=>z,?_⟩
  refine ⟨_,rfl,_,rfl,_,rfl,_,rfl,e,_,_,_,rfl,rfl,SqT.of h4e,rfl,_,rfl,e,_,_,_,rfl,rfl,SqT.of h4e,rfl,p,q0,r0,es,cs,pr,i,j,rfl,sameT S4 hp,sameT S4 hc,sameT S4 hpr,hge,hgc,hi,hj,by omega,h7,fun H5 la as S5 hla hA=>?_⟩
  obtain ⟨x0,hx0,ex0⟩:=hR.eq i j hi hj hn
  have hcm:x0 ∈ cheap es cs pr R i j:=List.mem_filter.mpr ⟨hx0,decide_eq_true ex0.symm⟩
  have hwl:=ways_few (es:=es) (cs:=cs) (i:=i) (j:=j) (by omega)
  have hfw:=ways_fwd es cs i j hi hj
  have hok:=ways_ok (i:=i) (j:=j) (es:=es) hgc (by omega)
  have hch:cheap es cs pr R i j=(ways es cs i j).filter fun x=>decide (price es i pr x.1+R x.2.1 x.2.2=R i j):=rfl
  have h5e:=S5 _ _ h4e
  have S05:=S4.trans S5
  have h5d:=S05 _ _ hd
  have hk5:KeysAt H5 ys:=fun y hy=>S05 _ _ (hkk y hy)
  have hlz:H5 la=some (.lst ((as.zip (ways es cs i j)).map fun x=>V.ref x.1)):=by rw [zip1 V.ref hA.len];exact hla
  refine ⟨la,rfl,⟨_,SqL.of hlz⟩,comp_pure (as:=as.zip (ways es cs i j)) (v:=fun x=>V.ref x.1) (fun x=>decide (price es i pr x.2.1+R x.2.2.1 x.2.2.2=R i j)) (fun x=>V.ref x.1) (src_list (SqL.of hlz)) (by rw [List.length_zip,hA.len];exact few (by omega)) (fun x hx kc hkc=>?_) (fun x hx _ kc hkc=>⟨_,rfl,hkc⟩) fun D hD=>?_⟩
  ·obtain ⟨k,hkz⟩:=List.mem_iff_getElem?.mp hx
   obtain ⟨z1,z2⟩:=List.getElem?_zip_eq_some.mp hkz
   obtain ⟨tt,e',hb,he',_,_⟩:=hA.item k _ _ z1 z2
   have hw:=hfw _ (List.mem_of_getElem? z2)
   refine ⟨_,rfl,x.1,_,_,_,rfl,rfl,SqT.of hb,atI_nat (j:=2) rfl,_,rfl,_,rfl,x.1,_,_,_,rfl,rfl,SqT.of hb,atI_nat (j:=1) rfl,d,ys,kp x.2.2.1 x.2.2.2,e',.int (R x.2.2.1 x.2.2.2),rfl,rfl,h5d,hk5,he',hval _ _ hw.1 hw.2.1,_,_,rfl,rfl,_,rfl,_,rfl,d,ys,kp i j,e,.int (R i j),rfl,rfl,h5d,hk5,h5e,hval _ _ hi hj,rfl,_,rfl,?_⟩
   have ed:decide (V.int (price es i pr x.2.1+R x.2.2.1 x.2.2.2)=V.int (R i j))=decide (price es i pr x.2.1+R x.2.2.1 x.2.2.2=R i j):=by
    rw [Bool.eq_iff_iff,decide_eq_true_iff,decide_eq_true_iff]
    exact ⟨fun z=>V.int.inj z,fun z=>congrArg V.int z⟩
   rw [ed]
   exact hkc
  ·have hsnd:=zipf (as:=as) (ws:=ways es cs i j) (fun x=>decide (price es i pr x.1+R x.2.1 x.2.2=R i j)) hA.len
   rw [<-hch] at hsnd
   have hmemz:∀ y ∈ (as.zip (ways es cs i j)).filter fun x=>decide (price es i pr x.2.1+R x.2.2.1 x.2.2.2=R i j),∃ tt e',H5 y.1=some (.tup [.ref tt,.ref e',.int (price es i pr y.2.1)])/\H5 e'=some (.tup [.int ((y.2.2.1:Nat):Int),.int ((y.2.2.2:Nat):Int)])/\H5 tt=some (.tup (stepV y.2.1))/\okS y.2.1/\y.2 ∈ ways es cs i j:=fun y hy=>by
    obtain ⟨k,hkz⟩:=List.mem_iff_getElem?.mp (List.mem_filter.mp hy).1
    obtain ⟨z1,z2⟩:=List.getElem?_zip_eq_some.mp hkz
    obtain ⟨tt,e',a1,a2,a3,a4⟩:=hA.item k _ _ z1 z2
    exact ⟨tt,e',a1,a2,a3,a4,List.mem_of_getElem? z2⟩
   generalize (as.zip (ways es cs i j)).filter (fun x=>decide (price es i pr x.2.1+R x.2.2.1 x.2.2.2=R i j))=gs at hsnd hmemz
   cases gs with
   | nil=>rw [<-hsnd] at hcm;cases hcm
   | cons y gr=>
    obtain ⟨tt,e',a1,a2,a3,a4,hyw⟩:=hmemz y List.mem_cons_self
    have hw:=hfw _ hyw
    have hhead:(cheap es cs pr R i j).head?=some y.2:=by rw [<-hsnd];rfl
    have SD:=same_upd (o:=.lst ((y :: gr).map fun x=>V.ref x.1)) hD
    have h6D:upd H5 D (.lst ((y :: gr).map fun x=>V.ref x.1)) D=some (.lst ((y :: gr).map fun x=>V.ref x.1)):=upd_same
    have b1:=SD _ _ a1
    have b2:=SD _ _ a2
    have b3:=SD _ _ a3
    have h6l:=SD _ _ (S5 _ _ h4l)
    have hT6:=(hT4.mono S5).mono SD
    have S06:=S05.trans SD
    have nDl:D ≠ l:=fun z=>by rw [z,S5 _ _ h4l] at hD;cases hD
    generalize upd H5 D (.lst ((y :: gr).map fun x=>V.ref x.1))=H6 at SD h6D b1 b2 b3 h6l hT6 S06
    refine ⟨_,rfl,.inl ⟨rfl,_,SqL.of h6l⟩,_,rfl,D,_,_,_,rfl,rfl,SqL.of h6D,atI_nat (j:=0) rfl,y.1,_,_,_,rfl,rfl,SqT.of b1,atI_nat (j:=0) rfl,l,_,_,rfl,rfl,h6l,(by rw [List.length_map,hT6.len];exact fewer (by omega)),?_⟩
    have keep:∀ {b:Addr} {ys zs:List V},H6 b=some (.tup ys)->upd H6 l (.lst zs) b=some (.tup ys):=fun {b ys zs} h=>by
     rw [upd_ne (ne_of h h6l (by intro z;cases z))];exact h
    refine ⟨_,rfl,D,_,_,_,rfl,rfl,SqL.of (by rw [upd_ne nDl];exact h6D),atI_nat (j:=0) rfl,y.1,_,_,_,rfl,rfl,SqT.of (keep b1),atI_nat (j:=1) rfl,?_⟩
    refine ⟨(es.length - y.2.2.1)+(cs.length - y.2.2.2),by omega,?_⟩
    rw [hW]
    refine ⟨y.2.2.1,y.2.2.2,e',ts++[tt],sts++[y.2.1],_,rfl,hw.1,hw.2.1,rfl,keep b2,by rw [upd_same,List.map_append];rfl,(hT6.app (TupsAt.one b3 a4)).set h6l,by rw [List.length_append];show _+1<=_;omega,fun r hr'=>?_,same_to S06 hlH⟩
    rw [List.append_assoc]
    exact hto _ ⟨y.2,hhead,rfl,hr'⟩
theorem drop_one {cs:List Str} {j:Nat} (h:j < cs.length):(cs.drop j).take 1=[gt cs j]:=by
 rw [List.drop_eq_getElem_cons h,List.take_succ_cons,List.take_zero]
 unfold gt
 rw [List.getElem?_eq_getElem h]
 rfl
theorem take_last {cs:List Str} {j:Nat} (h0:0 < j) (h:j<=cs.length):(cs.take j).getLast?=some (gt cs (j - 1)):=by
 rw [List.getLast?_eq_getElem?,List.length_take,Nat.min_eq_left h,List.getElem?_take_of_lt (by omega)]
 exact gt_of (by omega)
def stepsB (es cs:List Str) (pr:List Int) (c:Int) (sts:List Sk):Bool:=
 match made es sts with
 | some (cp,pl)=>decide (cp=cs) && decide (cost es pr pl sts=c)
 | none=>false
def spStS (K:PySem.W.Frag):Sp:=fun vs H Q _=>∃ (p q r u:Addr) (es cs:List Str) (pr:List Int) (c:Int) (ts:List Addr) (sts:List Sk),vs=[.ref p,.ref q,.ref r,.int c,.ref u]/\SqT K H p (es.map V.str)/\SqT K H q (cs.map V.str)/\SqT K H r (pr.map V.int)/\(∀ z ∈ es,Good z)/\pr.length=7/\SqT K H u (ts.map V.ref)/\StepsAt K H ts sts/\sts.length<=1000 ∧
 ∀ H',Same H H'->Q (.bl (stepsB es cs pr c sts)) H'
theorem scStS:FnScope ["elder","copy","prices","price","steps"] ["elder","copy","prices","price","steps"] (defScope sStS):=⟨rfl,rfl,rfl,by decide +kernel,rfl,by decide +kernel,by decide +kernel⟩
theorem int_dec (a b:Int):decide (V.int a=V.int b)=decide (a=b):=decide_eq_decide.mpr ⟨fun e=>by injection e,fun e=>by rw [e]⟩
theorem op_eqSK {X:Cx} {K:PySem.W.Frag} (hK:X.K=K) (hu:X.A.units+64 < cLine):OpR X (compareOp .Eq) (fun x y H Q=>∃ n b,n<=20/\EqS K H n x y b/\Q (.bl b) H):=by subst hK;exact op_eqS hu
theorem ok_sts {f gCp gCo CN:Addr} {fd dCp dCo:FuncData} (F:Fun K "steps_stand" "steps_stand" sStS f fd) (DCp:Dfn K mg "copy_made" sCopy gCp dCp ["elder","steps"]) (GCp:FnOk P w K mg base (CXv P w) 5 gCp dCp ["elder","steps"] (spCopy K CN)) (DCo:Dfn K mg "slips_price" sCost gCo dCo ["elder","steps","prices"]) (GCo:FnOk P w K mg base (CXv P w) 5 gCo dCo ["elder","steps","prices"] (spCost K CN))
  (mN:mg "NoSlips" = some (.ref CN)) (hit:Hits K CN CN):FnOk P w K mg base CX0 6 f fd ["elder","copy","prices","price","steps"] (spStS K):=by
 refine F.ok scStS (fun vs H Q E h=>?_) (fun cdv A outer s H vs Q E hr h=>?_)
 ·obtain ⟨p,q,r,u,es,cs,pr,c,ts,sts,rfl,_⟩:=h
  rfl
 ·obtain ⟨p,q0,r0,u,es,cs,pr,c,ts,sts,rfl,hp,hc,hpr,hg,h7,hu,hst,hsl,q⟩:=h
  refine ⟨_,pss_one (ps_tryF (D:=CN) ⟨rfl,rfl⟩ rfl (fun pn E=>(pss_one (ps_ret (pe_and (pe_cmpR (op_eqSK (K:=K) rfl hr.units) (pe_call GCp hr (by rfl) DCp.at_ DCp.fn.kp DCp.bn .nil (passesT rfl rfl rfl rfl) (pa_cons (pv 0) (pa_cons (pv 4) pa_nil))) (pv 1) (nomark _)) (pe_one (pe_cmpR op_eq (pe_call GCo hr (by rfl) DCo.at_ DCo.fn.kp DCo.bn .nil (passesT rfl rfl rfl rfl) (pa_cons (pv 0) (pa_cons (pv 4) (pa_cons (pv 2) pa_nil)))) (pv 3) (nomark _))))))) (by rfl) mN (fun ea=>(pss_one (ps_ret pe_bl)))),?_⟩
  refine ⟨_,rfl,_,rfl,p,u,es,ts,sts,rfl,hp,hu,hst,hsl,?_⟩
  unfold stepsB at q
  cases hm:made es sts with
  | none=>
   rw [hm] at q
   exact ⟨CN,rfl,hit,fun _=>q H (Same.refl H)⟩
  | some y=>
   obtain ⟨cp,pl⟩:=y
   rw [hm] at q
   intro a ha
   have Sa:=same_upd (o:=.tup (cp.map V.str)) ha
   refine ⟨_,rfl,0,_,by decide,EqS.strs (.inr ⟨SqT.of upd_same,sameT Sa hc⟩),_,rfl,ite2 (fun h=>?_) (fun h=>?_)⟩
   ·refine ⟨_,rfl,_,rfl,_,rfl,p,u,r0,es,ts,sts,pr,rfl,sameT Sa hp,hg,sameT Sa hu,hst.mono Sa,hsl,sameT Sa hpr,h7,?_⟩
    rw [hm]
    refine ⟨_,rfl,rfl,?_⟩
    have this:Q (.bl (decide (cp=cs) && decide (cost es pr pl sts=c))) _:=q _ Sa
    rw [h,Bool.true_and] at this
    rw [int_dec]
    exact this
   ·have this:Q (.bl (decide (cp=cs) && decide (cost es pr pl sts=c))) _:=q _ Sa
    rw [Bool.eq_false_iff.mpr h,Bool.false_and] at this
    exact this
structure RowsAt (K:PySem.W.Frag) (H:Hp) (t:Addr) (us:List Addr) (rows:List (List Int)):Prop where
 top:SqT K H t (us.map V.ref)
 len:us.length=rows.length
 row:∀ (i:Nat) (u:Addr) (r:List Int),us[i]?=some u->rows[i]?=some r->SqT K H u (r.map V.int)
theorem RowsAt.mono {K:PySem.W.Frag} {H H':Hp} {t:Addr} {us:List Addr} {rows:List (List Int)} (S:Same H H') (h:RowsAt K H t us rows):RowsAt K H' t us rows:=⟨sameT S h.top,h.len,fun i u r e1 e2=>sameT S (h.row i u r e1 e2)⟩
def tabF (rows:List (List Int)) (i j:Nat):Int:=((((rows[i]?).getD [])[j]?).getD 0)
def shapeB (m n:Nat) (rows:List (List Int)):Bool:=decide (rows.length=m+1) && rows.all fun r=>decide (r.length=n+1)
theorem shape_row {m n:Nat} {rows:List (List Int)} (h:shapeB m n rows=true) {i:Nat} (hi:i<=m):∃ r,rows[i]?=some r/\r.length=n+1/\∀ j,j<=n->r[j]?=some (tabF rows i j):=by
 obtain ⟨h1,h2⟩:=Bool.and_eq_true_iff.mp h
 have hl:=of_decide_eq_true h1
 have e:=List.getElem?_eq_getElem (show i < rows.length by omega)
 have hr:=of_decide_eq_true (List.all_eq_true.mp h2 _ (List.mem_of_getElem? e))
 refine ⟨_,e,hr,fun j hj=>?_⟩
 unfold tabF
 rw [e]
 show _=some (((rows[i])[j]?).getD 0)
 rw [List.getElem?_eq_getElem (show j < rows[i].length by omega)]
 rfl
theorem rows_line {K:PySem.W.Frag} {H:Hp} {t:Addr} {us:List Addr} {rows:List (List Int)} {m n:Nat} (hT:RowsAt K H t us rows) (h:shapeB m n rows=true) {i:Nat} (hi:i<=m):∃ (u:Addr) (r:List Int),atI (us.map V.ref) ((i:Nat):Int)=some (.ref u)/\SqT K H u (r.map V.int)/\∀ j,j<=n->atI (r.map V.int) ((j:Nat):Int)=some (.int (tabF rows i j)):=by
 obtain ⟨r,e,hr,hj⟩:=shape_row h hi
 have hl:i < us.length:=by rw [hT.len];exact (List.getElem?_eq_some_iff.mp e).1
 exact ⟨us[i],r,atI_nat (by rw [List.getElem?_map,List.getElem?_eq_getElem hl];rfl),hT.row i _ r (List.getElem?_eq_getElem hl) e,fun j h2=>atI_nat (by rw [List.getElem?_map,hj j h2];rfl)⟩
theorem rows_last {K:PySem.W.Frag} {H:Hp} {t:Addr} {us:List Addr} {rows:List (List Int)} {m n:Nat} (hT:RowsAt K H t us rows) (h:shapeB m n rows=true):∃ (u:Addr) (r:List Int),atI (us.map V.ref) (-1)=some (.ref u)/\SqT K H u (r.map V.int)/\atI (r.map V.int) (-1)=some (.int (tabF rows m n)):=by
 obtain ⟨r,e,hr,hj⟩:=shape_row h (Nat.le_refl m)
 have hrl:=of_decide_eq_true (Bool.and_eq_true_iff.mp h).1
 have hl:m < us.length:=by rw [hT.len];omega
 refine ⟨us[m],r,atI_last ?_ (by rw [List.length_map];omega),hT.row m _ r (List.getElem?_eq_getElem hl) e,atI_last ?_ (by rw [List.length_map];omega)⟩
 ·rw [List.length_map,hT.len,hrl,Nat.add_sub_cancel,List.getElem?_map,List.getElem?_eq_getElem hl];rfl
 ·rw [List.length_map,hr,Nat.add_sub_cancel,List.getElem?_map,hj n (Nat.le_refl _)];rfl
def spShape (K:PySem.W.Frag):Sp:=fun vs H Q _=>∃ (p q t:Addr) (es cs:List V) (us:List Addr) (rows:List (List Int)),vs=[.ref p,.ref q,.ref t]/\SqT K H p es/\SqT K H q cs/\RowsAt K H t us rows/\rows.length<=1000/\Q (.bl (shapeB es.length cs.length rows)) H
theorem scShape:FnScope ["elder","copy","table"] ["elder","copy","table"] (defScope sShape):=⟨rfl,rfl,rfl,by decide +kernel,rfl,by decide +kernel,by decide +kernel⟩
theorem nd_roc:(["row","copy"]:List Str).Nodup:=by decide +kernel
theorem ok_shape {f:Addr} {fd:FuncData} (F:Fun K "has_shape" "has_shape" sShape f fd) (mlen:mg "len" = none) (mall:mg "all" = none):FnOk P w K mg base CX0 1 f fd ["elder","copy","table"] (spShape K):=by
 refine Fun.okR F scShape (fun vs H Q E h=>?_) (fun cdv A outer s H vs Q Q2 E hr h hq=>?_)
 ·obtain ⟨p,q,t,es,cs,us,rows,rfl,_⟩:=h
  rfl
 ·obtain ⟨p,q0,t,es,cs,us,rows,rfl,hp,hc,hT,hrl,q⟩:=h
  refine ⟨_,pss_one (ps_ret (pe_and (pe_cmpR op_eq (pe_callB call_len_seq (by rfl) mlen PySem.boot_len (pa_cons (pv 2) pa_nil)) (pe_op op_add (pe_callB call_len_seq (by rfl) mlen PySem.boot_len (pa_cons (pv 0) pa_nil)) pe_int) (nomark _)) (pe_one (pe_callB (call_all rfl) (by rfl) mall boot_all (pa_cons (pe_comp (Nc:=["row","copy"]) (mp:=[none,some 1]) rfl (CompOk.of (by rfl)) (pi_tup (pv 2)) (fun cl C s H fp=>⟨pg_name (i:=0) nd_roc rfl (Or.inl rfl),pts_nil,(pe_cmpR op_eq (pe_callB (call_len_seqK (K:=K) rfl) (by rfl) mlen PySem.boot_len (pa_cons (pv 0) pa_nil)) (pe_op op_add (pe_callB (call_len_seqK (K:=K) rfl) (by rfl) mlen PySem.boot_len (pa_cons (pv 1) pa_nil)) pe_int) (nomark _))⟩)) pa_nil))))),?_⟩
  have hul:(us.map V.ref).length=rows.length:=by rw [List.length_map,hT.len]
  refine ⟨_,rfl,t,_,rfl,.inr hT.top,_,rfl,p,_,rfl,.inr hp,_,_,rfl,rfl,rfl,_,rfl,?_⟩
  rw [hul]
  unfold shapeB at q
  by_cases h1:rows.length=es.length+1
  ·refine iteY (by rw [h1];rfl) ?_
   rw [decide_eq_true h1,Bool.true_and] at q
   have hzl:(us.zip rows).length=rows.length:=by rw [List.length_zip,hT.len];exact Nat.min_self _
   have etop:(us.zip rows).map (fun x=>V.ref x.1)=us.map V.ref:=by
    rw [show (fun x:Addr × List Int=>V.ref x.1)=V.ref ∘ Prod.fst from rfl,<-List.map_map,List.map_fst_zip (by rw [hT.len];exact Nat.le_refl _)]
   refine ⟨_,rfl,t,rfl,⟨_,hT.top⟩,comp_map (as:=us.zip rows) (v:=fun x=>V.ref x.1) (fun x=>.bl (decide (x.2.length=cs.length+1))) (src_tup (by rw [etop];exact hT.top)) (by rw [hzl];exact few (by omega)) (fun x hx k hk=>?_) (fun D hD=>?_)⟩
   ·obtain ⟨i,hi⟩:=List.mem_iff_getElem?.mp hx
    obtain ⟨z1,z2⟩:=List.getElem?_zip_eq_some.mp hi
    refine ⟨_,rfl,x.1,_,rfl,.inr (hT.row i _ _ z1 z2),_,rfl,q0,_,rfl,.inr hc,_,_,rfl,rfl,rfl,?_⟩
    have e:decide (V.int (((x.2.map V.int).length:Nat):Int)=V.int (((cs.length:Nat):Int)+1))=decide (x.2.length=cs.length+1):=by
     rw [int_dec,List.length_map]
     exact decide_eq_decide.mpr (by omega)
    rw [e]
    exact hk
   ·refine ⟨D,(us.zip rows).map fun x=>decide (x.2.length=cs.length+1),rfl,SqL.of (by rw [upd_same,List.map_map];rfl),hq _ _ (Rst.same (same_upd hD) ?_)⟩
    have e:((us.zip rows).map fun x=>decide (x.2.length=cs.length+1)).all id=rows.all fun r=>decide (r.length=cs.length+1):=by
     rw [List.all_map]
     have:rows=(us.zip rows).map Prod.snd:=(List.map_snd_zip (by rw [hT.len];exact Nat.le_refl _)).symm
     conv=>rhs;rw [this,List.all_map]
     rfl
    rw [e]
    exact q
  ·refine iteK (fun z=>h1 (by injection z with z;omega)) ?_
   rw [decide_eq_false h1,Bool.false_and] at q
   exact hq _ _ (Rst.same (Same.refl H) q)
def knotB (es cs:List Str) (pr:List Int) (rows:List (List Int)) (i j:Nat):Bool:=(ways es cs i j).all fun x=>!decide (tabF rows i j+price es i pr x.1 < tabF rows x.2.1 x.2.2)
def spKnS (K:PySem.W.Frag):Sp:=fun vs H Q _=>∃ (p q r t:Addr) (es cs:List Str) (pr:List Int) (us:List Addr) (rows:List (List Int)) (i j:Nat),vs=[.ref p,.ref q,.ref r,.ref t,.int ((i:Nat):Int),.int ((j:Nat):Int)]/\SqT K H p (es.map V.str)/\SqT K H q (cs.map V.str)/\SqT K H r (pr.map V.int)/\(∀ z ∈ es,Good z)/\(∀ z ∈ cs,Good z)/\es.length<=100/\cs.length<=100/\pr.length=7/\RowsAt K H t us rows/\shapeB es.length cs.length rows=true/\i<=es.length/\j<=cs.length ∧
 ∀ H',Same H H'->Q (.bl (knotB es cs pr rows i j)) H'
theorem scKnS:FnScope ["elder","copy","prices","table","i","j","step","done","written"] ["elder","copy","prices","table","i","j"] (defScope sKnS):=⟨rfl,rfl,rfl,by decide +kernel,rfl,by decide +kernel,by decide +kernel⟩
theorem ok_kns {f gW gP:Addr} {fd dW dP:FuncData} (F:Fun K "knot_stands" "knot_stands" sKnS f fd) (DW:Dfn K mg "knot_ways" sWays gW dW ["elder","copy","i","j"]) (GW:FnOk P w K mg base CX0 2 gW dW ["elder","copy","i","j"] (spWays K)) (DP:Dfn K mg "step_price" sPrice gP dP ["elder","done","step","prices"]) (GP:FnOk P w K mg base CX0 2 gP dP ["elder","done","step","prices"] (spPrice K)):FnOk P w K mg base CX0 3 f fd ["elder","copy","prices","table","i","j"] (spKnS K):=by
 refine F.ok scKnS (fun vs H Q E h=>?_) (fun cdv A outer s H vs Q E hr h=>?_)
 ·obtain ⟨p,q,r,t,es,cs,pr,us,rows,i,j,rfl,_⟩:=h
  rfl
 ·obtain ⟨p,q0,r0,t,es,cs,pr,us,rows,i,j,rfl,hp,hc,hpr,hge,hgc,hel,hcl,h7,hT,hsh,hi,hj,q⟩:=h
  refine ⟨_,pss_cons (ps_for PassesOwn.never rfl (pi_list (pe_call GW hr (by rfl) DW.at_ DW.fn.kp DW.bn .nil pass0 (pa_cons (pv 0) (pa_cons (pv 1) (pa_cons (pv 4) (pa_cons (pv 5) pa_nil)))))) (pg_tup (n:=3) rfl (pgs_cons (pg_name (i:=6) scKnS.nd rfl (Or.inl rfl)) (pgs_cons (pg_name (i:=7) scKnS.nd rfl (Or.inl rfl)) (pgs_cons (pg_name (i:=8) scKnS.nd rfl (Or.inl rfl)) pgs_nil))))
   (pss_one (ps_if (pt_cmpR op_gt (pe_ix ix_tup (pe_ix ix_tup (pv 3) (pv 7) (fun _ _=>rfl)) (pv 8) (fun _ _=>rfl)) (pe_op op_add (pe_ix ix_tup (pe_ix ix_tup (pv 3) (pv 4) (fun _ _=>rfl)) (pv 5) (fun _ _=>rfl)) (pe_call GP hr (by rfl) DP.at_ DP.fn.kp DP.bn .nil pass0 (pa_cons (pv 0) (pa_cons (pv 4) (pa_cons (pv 6) (pa_cons (pv 2) pa_nil)))))) (nomark _)) (pss_one (ps_ret pe_bl)) pss_nil)))
   (pss_one (ps_ret pe_bl)),?_⟩
  refine ⟨_,rfl,_,rfl,_,rfl,_,rfl,p,q0,es,cs,i,j,rfl,hp,hc,hi,hj,by omega,fun H1 lw as S1 hlw hW=>?_⟩
  have hok:=ways_ok (i:=i) (j:=j) (es:=es) hgc (by omega)
  have htn:∀ x ∈ ways es cs i j,turnOk es i x.1:=fun x hx=>by
   cases hx1:x.1 with
   | turn z=>exact ways_turn hx hx1
   | _=>trivial
  have hfw:=ways_fwd es cs i j hi hj
  unfold knotB at q
  generalize ways es cs i j=ws at hW hok htn hfw q
  refine ⟨lw,rfl,⟨_,SqL.of hlw⟩,for_list (K:=K) (a:=lw) (xs:=as.map V.ref) (fun k σ H2=>∃ (v6 v7 v8:Option V),σ=[some (.ref p),some (.ref q0),some (.ref r0),some (.ref t),some (.int ((i:Nat):Int)),some (.int ((j:Nat):Int)),v6,v7,v8]/\H2=H1/\(ws.take k).all (fun x=>!decide (tabF rows i j+price es i pr x.1 < tabF rows x.2.1 x.2.2))=true)
   ⟨none,none,none,rfl,rfl,rfl⟩ (fun k σ H2 _ ⟨_,_,_,_,e,_⟩=>by rw [e];exact SqL.of hlw) ?_ ?_⟩
  ·rintro k y σ H2 hk ⟨v6,v7,v8,rfl,rfl,hall⟩
   obtain ⟨a,hak,rfl⟩:=ref_at hk
   have hkl:k < ws.length:=by rw [<-hW.len];exact (List.getElem?_eq_some_iff.mp hak).1
   obtain ⟨ts,ha,hts⟩:=hW.item k a ws[k] hak (List.getElem?_eq_getElem hkl)
   have hxm:ws[k] ∈ ws:=List.getElem_mem hkl
   have hx:=hfw _ hxm
   have hx1:=hok _ hxm
   have hx2:=htn _ hxm
   have htake:ws.take (k+1)=ws.take k++[ws[k]]:=List.take_succ_eq_append_getElem hkl
   generalize ws[k]=x at *
   have hT2:=hT.mono S1
   obtain ⟨u1,r1,au1,hu1,ar1⟩:=rows_line hT2 hsh hx.1
   obtain ⟨u2,r2,au2,hu2,ar2⟩:=rows_line hT2 hsh hi
   refine ⟨_,_,rfl,SqT.of ha,rfl,_,_,rfl,_,_,rfl,_,_,rfl,rfl,?_⟩
   refine ⟨_,rfl,_,rfl,t,_,_,_,rfl,rfl,hT2.top,au1,_,rfl,u1,_,_,_,rfl,rfl,hu1,ar1 _ hx.2.1,_,rfl,_,rfl,t,_,_,_,rfl,rfl,hT2.top,au2,_,rfl,u2,_,_,_,rfl,rfl,hu2,ar2 _ hj,_,rfl,_,rfl,_,rfl,_,rfl,p,ts,r0,es,i,x.1,pr,rfl,sameT S1 hp,hge,SqT.of hts,hx1,hx2,sameT S1 hpr,h7,_,_,rfl,rfl,_,_,rfl,rfl,_,rfl,?_⟩
   refine ite2 (fun h=>?_) (fun h=>?_)
   ·have e:(ws.all fun x=>!decide (tabF rows i j+price es i pr x.1 < tabF rows x.2.1 x.2.2))=false:=List.all_eq_false.mpr ⟨x,hxm,by rw [h];exact Bool.false_ne_true⟩
    rw [e] at q
    exact q _ S1
   ·refine ⟨_,_,_,rfl,rfl,?_⟩
    rw [htake,List.all_append,hall,Bool.true_and,List.all_cons,List.all_nil,Bool.and_true,Bool.eq_false_iff.mpr h]
    rfl
  ·rintro σ H2 ⟨v6,v7,v8,rfl,rfl,hall⟩
   rw [List.length_map,hW.len,List.take_length] at hall
   rw [hall] at q
   exact q _ S1
def tableB (es cs:List Str) (pr:List Int) (c:Int) (rows:List (List Int)):Bool:=shapeB es.length cs.length rows && (decide (tabF rows 0 0=0) && (decide (tabF rows es.length cs.length=c) && (List.range (es.length+1)).all fun i=>(List.range (cs.length+1)).all fun j=>knotB es cs pr rows i j))
def spTbS (K:PySem.W.Frag):Sp:=fun vs H Q _=>∃ (p q r t:Addr) (es cs:List Str) (pr:List Int) (c:Int) (us:List Addr) (rows:List (List Int)),vs=[.ref p,.ref q,.ref r,.int c,.ref t]/\SqT K H p (es.map V.str)/\SqT K H q (cs.map V.str)/\SqT K H r (pr.map V.int)/\(∀ z ∈ es,Good z)/\(∀ z ∈ cs,Good z)/\es.length<=100/\cs.length<=100/\pr.length=7/\RowsAt K H t us rows/\rows.length<=1000 ∧
 ∀ H',Same H H'->Q (.bl (tableB es cs pr c rows)) H'
theorem scTbS:FnScope ["elder","copy","prices","price","table","i","j"] ["elder","copy","prices","price","table"] (defScope sTbS):=⟨rfl,rfl,rfl,by decide +kernel,rfl,by decide +kernel,by decide +kernel⟩
theorem ok_tbs {f gSh gKn:Addr} {fd dSh dKn:FuncData} (F:Fun K "table_stands" "table_stands" sTbS f fd) (DSh:Dfn K mg "has_shape" sShape gSh dSh ["elder","copy","table"]) (DKn:Dfn K mg "knot_stands" sKnS gKn dKn ["elder","copy","prices","table","i","j"]) (GKn:FnOk P w K mg base CX0 3 gKn dKn ["elder","copy","prices","table","i","j"] (spKnS K)) (mlen:mg "len" = none) (mall:mg "all" = none) (mrange:mg "range" = none):FnOk P w K mg base CX0 4 f fd ["elder","copy","prices","price","table"] (spTbS K):=by
 have GSh:FnOk P w K mg base CX0 3 gSh dSh ["elder","copy","table"] (spShape K):=(ok_shape DSh.fn mlen mall).mono (by decide)
 refine F.ok scTbS (fun vs H Q E h=>?_) (fun cdv A outer s H vs Q E hr h=>?_)
 ·obtain ⟨p,q,r,t,es,cs,pr,c,us,rows,rfl,_⟩:=h
  rfl
 ·obtain ⟨p,q0,r0,t,es,cs,pr,c,us,rows,rfl,hp,hc,hpr,hge,hgc,hel,hcl,h7,hT,hrl,q⟩:=h
  refine ⟨_,pss_cons (ps_if (pt_not (pt_val (pe_call GSh hr (by rfl) DSh.at_ DSh.fn.kp DSh.bn .nil pass0 (pa_cons (pv 0) (pa_cons (pv 1) (pa_cons (pv 4) pa_nil)))))) (pss_one (ps_ret pe_bl)) pss_nil)
   (pss_cons (ps_if (PW.pt (pw_or (pt_cmpR op_ne (pe_ix ix_tup (pe_ix ix_tup (pv 4) pe_int (fun _ _=>rfl)) pe_int (fun _ _=>rfl)) pe_int (nomark _)) (pw_or1 (pt_cmpR op_ne (pe_ix ix_tup (pe_ix ix_tup (pv 4) (pe_un un_neg pe_int) (fun _ _=>rfl)) (pe_un un_neg pe_int) (fun _ _=>rfl)) (pv 3) (nomark _))))) (pss_one (ps_ret pe_bl)) pss_nil)
   (pss_cons (ps_for PassesOwn.never rfl (pi_range1 (by rfl) mrange (pa_cons (pe_op op_add (pe_callB call_len_seq (by rfl) mlen PySem.boot_len (pa_cons (pv 0) pa_nil)) pe_int) pa_nil)) (pg_name (i:=5) scTbS.nd rfl (Or.inl rfl))
   (pss_one (ps_for PassesOwn.never rfl (pi_range1 (by rfl) mrange (pa_cons (pe_op op_add (pe_callB call_len_seq (by rfl) mlen PySem.boot_len (pa_cons (pv 1) pa_nil)) pe_int) pa_nil)) (pg_name (i:=6) scTbS.nd rfl (Or.inl rfl))
   (pss_one (ps_if (pt_not (pt_val (pe_call GKn hr (by rfl) DKn.at_ DKn.fn.kp DKn.bn .nil pass0 (pa_cons (pv 0) (pa_cons (pv 1) (pa_cons (pv 2) (pa_cons (pv 4) (pa_cons (pv 5) (pa_cons (pv 6) pa_nil))))))))) (pss_one (ps_ret pe_bl)) pss_nil)))))
   (pss_one (ps_ret pe_bl)))),?_⟩
  have hle:(es.map V.str).length=es.length:=List.length_map ..
  have hlc:(cs.map V.str).length=cs.length:=List.length_map ..
  refine ⟨_,rfl,_,rfl,_,rfl,p,q0,t,_,_,us,rows,rfl,hp,hc,hT,hrl,_,rfl,?_⟩
  rw [hle,hlc]
  unfold tableB at q
  cases hsh:shapeB es.length cs.length rows with
  | false=>
   rw [hsh,Bool.false_and] at q
   exact iteT (q _ (Same.refl H))
  | true=>
   rw [hsh,Bool.true_and] at q
   refine iteF ?_
   obtain ⟨u1,r1,au1,hu1,ar1⟩:=rows_line hT hsh (Nat.zero_le _)
   obtain ⟨u2,r2,au2,hu2,ar2⟩:=rows_last hT hsh
   refine ⟨_,rfl,t,_,_,_,rfl,rfl,hT.top,au1,u1,_,_,_,rfl,rfl,hu1,ar1 0 (Nat.zero_le _),rfl,_,rfl,?_⟩
   by_cases h0:tabF rows 0 0=0
   ·rw [decide_eq_true h0,Bool.true_and] at q
    rw [show decide (V.int (tabF rows 0 0)=V.int 0)=true by rw [h0];rfl]
    refine iteF ⟨_,rfl,_,rfl,t,_,_,_,rfl,rfl,hT.top,au2,_,rfl,u2,_,_,_,rfl,rfl,hu2,ar2,_,rfl,rfl,_,rfl,?_⟩
    rw [int_dec]
    by_cases h1:tabF rows es.length cs.length=c
    ·rw [decide_eq_true h1,Bool.true_and] at q
     rw [decide_eq_true h1]
     refine iteF ?_
     refine ⟨_,rfl,p,_,rfl,.inr hp,_,_,rfl,rfl,_,rfl,by omega,by omega,?_⟩
     rw [hle,show ((es.length:Int)+1).toNat=es.length+1 by omega]
     refine for_range (fun i σ H2=>∃ (v5 v6:Option V),σ=[some (.ref p),some (.ref q0),some (.ref r0),some (.int c),some (.ref t),v5,v6]/\Same H H2/\∀ a,a < i->∀ b,b < cs.length+1->knotB es cs pr rows a b=true) ⟨none,none,rfl,Same.refl H,fun a ha=>absurd ha (Nat.not_lt_zero _)⟩ ?_ ?_
     ·rintro i σ H2 hi ⟨v5,v6,rfl,S2,hA⟩
      have ei:(0:Int)+((i:Nat):Int)=((i:Nat):Int):=by omega
      rw [ei]
      refine ⟨_,rfl,q0,_,rfl,.inr (sameT S2 hc),_,_,rfl,rfl,_,rfl,by omega,by omega,?_⟩
      rw [hlc,show ((cs.length:Int)+1).toNat=cs.length+1 by omega]
      refine for_range (fun j σ H3=>∃ (v6:Option V),σ=[some (.ref p),some (.ref q0),some (.ref r0),some (.int c),some (.ref t),some (.int ((i:Nat):Int)),v6]/\Same H H3/\∀ b,b < j->knotB es cs pr rows i b=true) ⟨v6,rfl,S2,fun b hb=>absurd hb (Nat.not_lt_zero _)⟩ ?_ ?_
      ·rintro j σ H3 hj ⟨v6,rfl,S3,hB⟩
       have ej:(0:Int)+((j:Nat):Int)=((j:Nat):Int):=by omega
       rw [ej]
       refine ⟨_,rfl,_,rfl,_,rfl,_,rfl,_,rfl,_,rfl,p,q0,r0,t,es,cs,pr,us,rows,i,j,rfl,sameT S3 hp,sameT S3 hc,sameT S3 hpr,hge,hgc,hel,hcl,h7,hT.mono S3,hsh,by omega,by omega,fun H4 S4=>⟨_,rfl,?_⟩⟩
       cases hk:knotB es cs pr rows i j with
       | false=>
        have e:((List.range (es.length+1)).all fun i=>(List.range (cs.length+1)).all fun j=>knotB es cs pr rows i j)=false:=
         List.all_eq_false.mpr ⟨i,List.mem_range.mpr hi,by
          rw [List.all_eq_false.mpr ⟨j,List.mem_range.mpr hj,by rw [hk];exact Bool.false_ne_true⟩]
          exact Bool.false_ne_true⟩
        rw [e] at q
        exact iteT (q _ (S3.trans S4))
       | true=>
        refine iteF ⟨_,rfl,S3.trans S4,fun b hb=>?_⟩
        by_cases e:b=j
        ·rw [e];exact hk
        ·exact hB b (by omega)
      ·rintro σ H3 ⟨v6,rfl,S3,hB⟩
       refine ⟨_,_,rfl,S3,fun a ha b hb=>?_⟩
       by_cases e:a=i
       ·rw [e];exact hB b hb
       ·exact hA a (by omega) b hb
     ·rintro σ H2 ⟨v5,v6,rfl,S2,hA⟩
      have e:((List.range (es.length+1)).all fun i=>(List.range (cs.length+1)).all fun j=>knotB es cs pr rows i j)=true:=
       List.all_eq_true.mpr fun i hi=>List.all_eq_true.mpr fun j hj=>hA i (List.mem_range.mp hi) j (List.mem_range.mp hj)
      rw [e] at q
      exact q _ S2
    ·rw [decide_eq_false h1,Bool.false_and] at q
     rw [decide_eq_false h1]
     exact iteT (q _ (Same.refl H))
   ·rw [decide_eq_false h0,Bool.false_and] at q
    rw [show decide (V.int (tabF rows 0 0)=V.int 0)=false by rw [int_dec];exact decide_eq_false h0]
    exact iteT (iteT (q _ (Same.refl H)))
def standB (es cs:List Str) (pr:List Int) (c:Int) (sts:List Sk) (rows:List (List Int)):Bool:=stepsB es cs pr c sts && tableB es cs pr c rows
def spStand (K:PySem.W.Frag):Sp:=fun vs H Q _=>∃ (p q r u t:Addr) (es cs:List Str) (pr:List Int) (c:Int) (ts:List Addr) (sts:List Sk) (us:List Addr) (rows:List (List Int)),vs=[.ref p,.ref q,.ref r,.int c,.ref u,.ref t]/\SqT K H p (es.map V.str)/\SqT K H q (cs.map V.str)/\SqT K H r (pr.map V.int)/\(∀ z ∈ es,Good z)/\(∀ z ∈ cs,Good z)/\es.length<=100/\cs.length<=100/\pr.length=7/\SqT K H u (ts.map V.ref)/\StepsAt K H ts sts/\sts.length<=1000/\RowsAt K H t us rows/\rows.length<=1000 ∧
 ∀ H',Same H H'->Q (.bl (standB es cs pr c sts rows)) H'
theorem scStand:FnScope ["elder","copy","prices","price","steps","table"] ["elder","copy","prices","price","steps","table"] (defScope sStand):=⟨rfl,rfl,rfl,by decide +kernel,rfl,by decide +kernel,by decide +kernel⟩
theorem ok_stand {f gS gT:Addr} {fd dS dT:FuncData} (F:Fun K "slips_stand" "slips_stand" sStand f fd) (DS:Dfn K mg "steps_stand" sStS gS dS ["elder","copy","prices","price","steps"]) (GS:FnOk P w K mg base CX0 6 gS dS ["elder","copy","prices","price","steps"] (spStS K)) (DT:Dfn K mg "table_stands" sTbS gT dT ["elder","copy","prices","price","table"]) (GT:FnOk P w K mg base CX0 6 gT dT ["elder","copy","prices","price","table"] (spTbS K)):FnOk P w K mg base CX0 7 f fd ["elder","copy","prices","price","steps","table"] (spStand K):=by
 refine F.ok scStand (fun vs H Q E h=>?_) (fun cdv A outer s H vs Q E hr h=>?_)
 ·obtain ⟨p,q,r,u,t,es,cs,pr,c,ts,sts,us,rows,rfl,_⟩:=h
  rfl
 ·obtain ⟨p,q0,r0,u,t,es,cs,pr,c,ts,sts,us,rows,rfl,hp,hc,hpr,hge,hgc,hel,hcl,h7,hu,hst,hsl,hT,hrl,q⟩:=h
  refine ⟨_,pss_one (ps_ret (pe_and (pe_call GS hr (by rfl) DS.at_ DS.fn.kp DS.bn .nil pass0 (pa_cons (pv 0) (pa_cons (pv 1) (pa_cons (pv 2) (pa_cons (pv 3) (pa_cons (pv 4) pa_nil)))))) (pe_one (pe_call GT hr (by rfl) DT.at_ DT.fn.kp DT.bn .nil pass0 (pa_cons (pv 0) (pa_cons (pv 1) (pa_cons (pv 2) (pa_cons (pv 3) (pa_cons (pv 5) pa_nil))))))))),?_⟩
  refine ⟨_,rfl,_,rfl,_,rfl,_,rfl,_,rfl,p,q0,r0,u,es,cs,pr,c,ts,sts,rfl,hp,hc,hpr,hge,h7,hu,hst,hsl,fun H1 S1=>⟨_,rfl,?_⟩⟩
  unfold standB at q
  cases hb:stepsB es cs pr c sts with
  | false=>
   rw [hb,Bool.false_and] at q
   exact iteF (q _ S1)
  | true=>
   rw [hb,Bool.true_and] at q
   exact iteT ⟨_,rfl,_,rfl,_,rfl,_,rfl,_,rfl,p,q0,r0,t,es,cs,pr,c,us,rows,rfl,sameT S1 hp,sameT S1 hc,sameT S1 hpr,hge,hgc,hel,hcl,h7,hT.mono S1,hrl,fun H2 S2=>q _ (S1.trans S2)⟩
def rowsOf (m n:Nat) (G:Nat->Nat->Int):List (List Int):=(List.range (m+1)).map fun i=>(List.range (n+1)).map fun j=>G i j
theorem rowsOf_len (m n:Nat) (G:Nat->Nat->Int):(rowsOf m n G).length=m+1:=by unfold rowsOf;rw [List.length_map,List.length_range]
theorem rowsOf_at {m n i:Nat} {G:Nat->Nat->Int} (hi:i<=m):(rowsOf m n G)[i]?=some ((List.range (n+1)).map fun j=>G i j):=by
 unfold rowsOf
 rw [List.getElem?_map,List.getElem?_range (by omega)]
 rfl
theorem nums_rows {K:PySem.W.Frag} {H:Hp} {t:Addr} {ps:List Addr} {m n:Nat} {G:Nat->Nat->Int} (h:NumsAt H t ps m n G):RowsAt K H t ps (rowsOf m n G):=by
 refine ⟨SqT.of h.top,by unfold rowsOf;rw [h.len,List.length_map,List.length_range],fun i u r e1 e2=>?_⟩
 have hi:i < m+1:=by rw [<-h.len];exact (List.getElem?_eq_some_iff.mp e1).1
 rw [rowsOf_at (by omega)] at e2
 cases e2
 have:=h.row i u e1
 rw [List.map_map]
 exact SqT.of this
theorem call_tuple_ofK {X:Cx} {K:PySem.W.Frag} (hK:X.K=K):CallR X (.type "tuple") (fun xs H Q=>∃ p ys,xs=[.ref p]/\((SqL K H p ys/\∀ l,H l=none->Q (.ref l) (upd H l (.tup ys)))\/(SqT K H p ys/\Q (.ref p) H))):=by subst hK;exact call_tuple_of
def spLTab (K:PySem.W.Frag):Sp:=fun vs H Q _=>∃ (p q r:Addr) (es cs:List Str) (pr:List Int),vs=[.ref p,.ref q,.ref r]/\SqT K H p (es.map V.str)/\SqT K H q (cs.map V.str)/\SqT K H r (pr.map V.int)/\(∀ z ∈ es,Good z)/\(∀ z ∈ cs,Good z)/\es.length<=40/\cs.length<=40/\pr.length=7 ∧
 ∀ (H':Hp) (t:Addr) (ps:List Addr) (F:Nat->Nat->Int),Same H H'->NumsAt H' t ps es.length cs.length F->Least (fun i st=>price es i pr st) es.length cs.length (ways es cs) F->Q (.ref t) H'
theorem scLTab:FnScope ["elder","copy","prices","table","knot","step","end","price"] ["elder","copy","prices"] (defScope sLTab):=⟨rfl,rfl,rfl,by decide +kernel,rfl,by decide +kernel,by decide +kernel⟩
theorem nd_ict:(["i","copy","table"]:List Str).Nodup:=by decide +kernel
theorem nd_jti:(["j","table","i"]:List Str).Nodup:=by decide +kernel
def GoneK (m n:Nat) (E:Nat->Nat->List Way) (k:Nat):Nat->Nat->Way->Prop:=fun a b x=>(a<=m/\b<=n/\a * (n+1)+b < k)/\x ∈ E a b
theorem goneK_at {m n i j:Nat} {E:Nat->Nat->List Way} (hj:j<=n) (a b:Nat) (x:Way):GoneK m n E (i * (n+1)+j) a b x ↔ Gone m n E i j [] a b x:=by
 unfold GoneK Gone Bef
 constructor
 ·rintro ⟨⟨h1,h2,h3⟩,h4⟩
  exact .inl ⟨⟨h1,h2,by rcases (code_ord h2 hj).mpr h3 with c | c;exact .inl c;exact .inr ⟨c.1.symm,c.2⟩⟩,h4⟩
 ·rintro (⟨⟨h1,h2,h3⟩,h4⟩ | ⟨_,_,h⟩)
  ·exact ⟨⟨h1,h2,(code_ord h2 hj).mp (by rcases h3 with c | c;exact .inl c;exact .inr ⟨c.1.symm,c.2⟩)⟩,h4⟩
  ·simp at h
theorem goneK_next {m n i j:Nat} {E:Nat->Nat->List Way} (hi:i<=m) (hj:j<=n) (a b:Nat) (x:Way):Gone m n E i j (E i j) a b x ↔ GoneK m n E (i * (n+1)+j+1) a b x:=by
 unfold GoneK Gone Bef
 constructor
 ·rintro (⟨⟨h1,h2,h3⟩,h4⟩ | ⟨rfl,rfl,h⟩)
  ·have:=(code_ord (n:=n) h2 hj).mp (by rcases h3 with c | c;exact .inl c;exact .inr ⟨c.1.symm,c.2⟩)
   exact ⟨⟨h1,h2,by omega⟩,h4⟩
  ·exact ⟨⟨hi,hj,by omega⟩,h⟩
 ·rintro ⟨⟨h1,h2,h3⟩,h4⟩
  by_cases e:a * (n+1)+b=i * (n+1)+j
  ·have e1:=code_div (i:=a) h2
   have e2:=code_div (i:=i) hj
   rw [e] at e1
   have ea:a=i:=e1.1.symm.trans e2.1
   have eb:b=j:=e1.2.symm.trans e2.2
   subst ea eb
   exact .inr ⟨rfl,rfl,h4⟩
  ·exact .inl ⟨⟨h1,h2,by rcases (code_ord (n:=n) h2 hj).mpr (show a * (n+1)+b < i * (n+1)+j by omega) with c | c;exact .inl c;exact .inr ⟨c.1.symm,c.2⟩⟩,h4⟩
theorem goneK_end {m n:Nat} {E:Nat->Nat->List Way} (a b:Nat) (x:Way):GoneK m n E ((m+1) * (n+1)) a b x ↔ Gone m n E (m+1) 0 [] a b x:=by
 unfold GoneK Gone Bef
 constructor
 ·rintro ⟨⟨h1,h2,h3⟩,h4⟩
  exact .inl ⟨⟨h1,h2,by omega⟩,h4⟩
 ·rintro (⟨⟨h1,h2,h3⟩,h4⟩ | ⟨_,_,h⟩)
  ·exact ⟨⟨h1,h2,code_lt h1 h2⟩,h4⟩
  ·simp at h
theorem rel_min {pr:Nat->Sk->Int} {T:Tb} {i j:Nat} {t g:Int} {x:Way} (ht:T i j=some t) (hg:(T x.2.1 x.2.2).getD (t+pr i x.1)=g):T.rel pr i j x=T.put x.2.1 x.2.2 (if t+pr i x.1 < g then t+pr i x.1 else g):=by
 unfold Tb.rel
 simp only [ht]
 cases hu:T x.2.1 x.2.2 with
 | none=>
  rw [hu] at hg
  have hg:t+pr i x.1=g:=hg
  rw [<-hg,if_neg (Int.lt_irrefl _)]
 | some u=>
  rw [hu] at hg
  have hg:u=g:=hg
  subst hg
  simp only []
  by_cases h:t+pr i x.1 < u
  ·rw [if_pos h,if_pos h]
  ·rw [if_neg h,if_neg h]
   funext a b
   by_cases e:a=x.2.1/\b=x.2.2
   ·rw [e.1,e.2,Tb.put_same,hu]
   ·rw [Tb.put_ne _ _ e]
theorem ok_ltab {f gK gA:Addr} {fd dK dA:FuncData} (F:Fun K "_law_table" "_law_table" sLTab f fd) (DK:Dfn K mg "_law_knots" sKnots gK dK ["elder","copy"]) (GK:FnOk P w K mg base CX0 3 gK dK ["elder","copy"] (spKnO K)) (DA:Dfn K mg "_law_arms" sArms gA dA ["elder","copy","prices","i","j"]) (GA:FnOk P w K mg base CX0 3 gA dA ["elder","copy","prices","i","j"] (spArms K)) (mlen:mg "len" = none) (mrange:mg "range" = none) (mtup:mg "tuple" = none) (mmin:mg "min" = none):FnOk P w K mg base CX0 4 f fd ["elder","copy","prices"] (spLTab K):=by
 refine F.ok scLTab (fun vs H Q E h=>?_) (fun cdv A outer s H vs Q E hr h=>?_)
 ·obtain ⟨p,q,r,es,cs,pr,rfl,_⟩:=h
  rfl
 ·obtain ⟨p,q0,r0,es,cs,pr,rfl,hp,hc,hpr,hge,hgc,hel,hcl,h7,q⟩:=h
  refine ⟨_,pss_cons (ps_set (i:=3) scLTab.nd rfl (Or.inr rfl) (pe_dispP hr.units (pe_tup (pa_cons pe_int (pa_cons pe_int pa_nil))) pe_int))
   (pss_cons (ps_for PassesOwn.never rfl (pi_list (pe_call GK hr (by rfl) DK.at_ DK.fn.kp DK.bn .nil pass0 (pa_cons (pv 0) (pa_cons (pv 1) pa_nil)))) (pg_name (i:=4) scLTab.nd rfl (Or.inl rfl))
   (pss_one (ps_for PassesOwn.never rfl (pi_list (pe_call GA hr (by rfl) DA.at_ DA.fn.kp DA.bn .nil pass0 (pa_cons (pv 0) (pa_cons (pv 1) (pa_cons (pv 2) (pa_cons (pe_ix ix_tup (pv 4) pe_int (fun _ _=>rfl)) (pa_cons (pe_ix ix_tup (pv 4) pe_int (fun _ _=>rfl)) pa_nil))))))) (pg_tup (n:=3) rfl (pgs_cons (pg_name (i:=5) scLTab.nd rfl (Or.inl rfl)) (pgs_cons (pg_name (i:=6) scLTab.nd rfl (Or.inl rfl)) (pgs_cons (pg_name (i:=7) scLTab.nd rfl (Or.inl rfl)) pgs_nil))))
   (pss_one (ps_asg (pe_callB (call_min2 rfl) (by rfl) mmin boot_min (pa_cons (pe_bmP PySem.F.slot_dict_get PySem.F.type_dict_get (mt_dgetP hr.units) (pv 3) (pa_cons (pv 6) (pa_cons (pe_op op_add (pe_datP rfl rfl hr.units (pv 3) (pv 4) (fun _ _=>rfl)) (pv 7)) pa_nil))) (pa_cons (pe_op op_add (pe_datP rfl rfl hr.units (pv 3) (pv 4) (fun _ _=>rfl)) (pv 7)) pa_nil))) (pg_sub (pv 3) (pv 6) (set_dictP hr.units)))))))
   (pss_one (ps_ret (pe_callTy call_tuple_of (by rfl) mtup boot_tuple (pa_cons (pe_compC (Nc:=["i","copy","table"]) (mp:=[none,some 1,some 3]) (x0 := "i") rfl (CompOkC.of (fun _ _=>rfl) (fun _=>rfl) (by rfl)) (pi_range1 (by rfl) mrange (pa_cons (pe_op op_add (pe_callB call_len_seq (by rfl) mlen PySem.boot_len (pa_cons (pv 0) pa_nil)) pe_int) pa_nil)) (fun c0 cl C s H fp=>⟨pg_name (i:=0) nd_ict rfl (Or.inr rfl) (Or.inl (beq_self_eq_true _)),pts_nil,(pe_callTy (call_tuple_ofK (K:=K) rfl) (by rfl) mtup boot_tuple (pa_cons (pe_comp (Nc:=["j","table","i"]) (mp:=[none,some 2,some 0]) rfl (CompOk.of (by rfl)) (pi_range1 (by rfl) mrange (pa_cons (pe_op op_add (pe_callB (call_len_seqK (K:=K) rfl) (by rfl) mlen PySem.boot_len (pa_cons (pv 1) pa_nil)) pe_int) pa_nil)) (fun cl C s H fp=>⟨pg_name (i:=0) nd_jti rfl (Or.inl rfl),pts_nil,(pe_datP rfl rfl hr.units (pv 1) (pe_tup (pa_cons (pv 2) (pa_cons (pv 0) pa_nil))) (fun _ _=>rfl))⟩)) pa_nil))⟩)) pa_nil))))),?_⟩
  have hle:(es.map V.str).length=es.length:=List.length_map ..
  have hlc:(cs.map V.str).length=cs.length:=List.length_map ..
  have hszl:=szl
  refine fun d hd=>⟨few (by show 2<=_;omega),fun b0 hb0=>?_⟩
  have T0:=same_upd (o:=DP P w d []) hd
  have T0':=same_upd (o:=.tup [V.int 0,.int 0]) hb0
  refine ⟨b0,kp 0 0,rfl,upd_same,T0' _ _ upd_same,?_⟩
  have nb:b0 ≠ d:=fun e=>by rw [e,upd_same] at hb0;cases hb0
  have S1:Same H (upd (upd (upd H d (DP P w d [])) b0 (.tup [V.int 0,.int 0])) d (DP P w d [(kp 0 0,b0,.int 0)])):=same_to (T0.trans T0') hd
  have h1d:upd (upd (upd H d (DP P w d [])) b0 (.tup [V.int 0,.int 0])) d (DP P w d [(kp 0 0,b0,.int 0)]) d=some (DP P w d [(kp 0 0,b0,.int 0)]):=upd_same
  have hk1:KeysAt (upd (upd (upd H d (DP P w d [])) b0 (.tup [V.int 0,.int 0])) d (DP P w d [(kp 0 0,b0,.int 0)])) [(kp 0 0,b0,.int 0)]:=fun y hy=>by
   rw [List.mem_singleton.mp hy,upd_ne nb,upd_same]
   rfl
  have hHo1:Holds es.length cs.length [(kp 0 0,b0,.int 0)] (Tb.put (fun _ _=>none) 0 0 0):=by
   have hz:Holds es.length cs.length [] (fun _ _=>none):=fun _ _ _ _=>rfl
   exact hz.put (i:=0) (j:=0) (b:=b0) (v:=0)
  refine ⟨_,rfl,_,rfl,p,q0,_,_,rfl,sameT S1 hp,sameT S1 hc,by omega,by omega,fun H2 lk ks S2 hlk hkl hk=>?_⟩
  rw [hle,hlc] at hkl
  rw [hlc] at hk
  have h2d:=S2 _ _ h1d
  have n1:=lst_dp hlk h2d
  have lks:(ks.map V.ref).length=(es.length+1) * (cs.length+1):=by rw [List.length_map];exact hkl
  have hNs:(es.length+1) * (cs.length+1)<=41 * 41:=Nat.mul_le_mul (by omega) (by omega)
  have S12:=S1.trans S2
  refine ⟨lk,rfl,⟨_,SqL.of hlk⟩,for_list (K:=K) (a:=lk) (xs:=ks.map V.ref) (fun k σ H3=>∃ (ys:List Pk) (T:Tb) (v4 v5 v6 v7:Option V),σ=[some (.ref p),some (.ref q0),some (.ref r0),some (.ref d),v4,v5,v6,v7]/\H3 d=some (DP P w d ys)/\KeysAt H3 ys/\ys.length<=1+1100 * k/\Holds es.length cs.length ys T/\TabI (fun i st=>price es i pr st) (GoneK es.length cs.length (ways es cs) k) T/\Sx d H2 H3/\Same H H3)
   ⟨[(kp 0 0,b0,.int 0)],_,none,none,none,none,rfl,h2d,(fun y hy=>S2 _ _ (hk1 y hy)),Nat.le_refl _,hHo1,TabI.start.congr (fun a b x=>by have:=goneK_at (m:=es.length) (i:=0) (j:=0) (E:=ways es cs) (Nat.zero_le cs.length) a b x;rw [Nat.zero_mul] at this;exact this.symm),Sx.of (Same.refl _),S12⟩ (fun k σ H3 _ ⟨_,_,_,_,_,_,_,_,_,_,_,_,Sxx,_⟩=>SqL.of (Sxx _ _ n1 hlk)) ?_ ?_⟩
  ·rintro k y σ H3 hy ⟨ys,T,v4,v5,v6,v7,rfl,h3d,hk3,hyl,hHo,hI,X3,S3⟩
   obtain ⟨a,hna,rfl⟩:=ref_at hy
   have hkn:k < (es.length+1) * (cs.length+1):=by rw [<-hkl];exact (List.getElem?_eq_some_iff.mp hna).1
   obtain ⟨hi,hj⟩:=knot_in hkn
   have h2a:=hk _ a hna
   have ha:=X3 _ _ (tup_dp h2a h2d) h2a
   unfold knotV at ha
   have ecode:k / (cs.length+1) * (cs.length+1)+k % (cs.length+1)=k:=by
    have:=Nat.div_add_mod k (cs.length+1)
    rw [Nat.mul_comm] at this
    exact this
   generalize k / (cs.length+1)=i at ha hi ecode
   generalize k % (cs.length+1)=j at ha hj ecode
   rw [<-ecode] at hI
   have hI3:=hI.congr (goneK_at hj)
   obtain ⟨t3,ht3⟩:=hI3.here (ways_come es cs) hi hj
   refine ⟨_,rfl,_,rfl,_,rfl,_,rfl,a,_,_,_,rfl,rfl,SqT.of ha,rfl,_,rfl,a,_,_,_,rfl,rfl,SqT.of ha,rfl,p,q0,r0,es,cs,pr,i,j,rfl,sameT S3 hp,sameT S3 hc,sameT S3 hpr,hge,hgc,hi,hj,by omega,h7,fun H4 la as S4 hla hA=>?_⟩
   have h4d:=S4 _ _ h3d
   have n4:=lst_dp hla h4d
   have h4a:=S4 _ _ ha
   have na:=tup_dp h4a h4d
   have hwl:=ways_few (es:=es) (cs:=cs) (i:=i) (j:=j) (by omega)
   have hfw:=ways_fwd es cs i j hi hj
   generalize hws:ways es cs i j=ws at hA hwl hfw
   refine ⟨la,rfl,⟨_,SqL.of hla⟩,for_list (K:=K) (a:=la) (xs:=as.map V.ref) (fun kk σ H5=>∃ (ys:List Pk) (T:Tb) (v5 v6 v7:Option V),σ=[some (.ref p),some (.ref q0),some (.ref r0),some (.ref d),some (.ref a),v5,v6,v7]/\H5 d=some (DP P w d ys)/\KeysAt H5 ys/\ys.length<=1+1100 * k+kk/\Holds es.length cs.length ys T/\TabI (fun i st=>price es i pr st) (Gone es.length cs.length (ways es cs) i j (ws.take kk)) T/\T i j=some t3/\Sx d H4 H5/\Same H H5)
    ⟨ys,T,v5,v6,v7,rfl,h4d,(fun y hy=>S4 _ _ (hk3 y hy)),hyl,hHo,by rw [List.take_zero];exact hI3,ht3,Sx.of (Same.refl _),S3.trans S4⟩ (fun kk σ H5 _ ⟨_,_,_,_,_,_,_,_,_,_,_,_,Sxx,_⟩=>SqL.of (Sxx _ _ n4 hla)) ?_ ?_⟩
   ·rintro kk y σ H5 hk5 ⟨ys,T,v5,v6,v7,rfl,h5d,hkk5,hyl5,hHo5,hI5,ht5,X5,S5⟩
    obtain ⟨b,hbk,rfl⟩:=ref_at hk5
    have hkw:kk < ws.length:=by rw [<-hA.len];exact (List.getElem?_eq_some_iff.mp hbk).1
    have hwk:=List.getElem?_eq_getElem hkw
    obtain ⟨tt,e,hb4,he4,_,_⟩:=hA.item kk b _ hbk hwk
    have hb:=X5 _ _ (tup_dp hb4 h4d) hb4
    have he:=X5 _ _ (tup_dp he4 h4d) he4
    have h5a:H5 a=some (.tup ((kp i j).map kV)):=X5 _ _ na h4a
    have hxm:=List.getElem_mem hkw
    have hw:=hfw _ hxm
    have hxm':ws[kk] ∈ ways es cs i j:=by rw [hws];exact hxm
    obtain ⟨hI6,ht6⟩:=hI5.step (ways_fwd es cs) hi hj hxm' ht5
    have htk:ws.take kk++[ws[kk]]=ws.take (kk+1):=(List.take_succ_eq_append_getElem hkw).symm
    rw [htk] at hI6
    generalize ws[kk]=x at hb he hw hI6 ht6
    have he':H5 e=some (.tup ((kp x.2.1 x.2.2).map kV)):=he
    have hvk:valP ys (kp i j)=some (.int t3):=by rw [hHo5 i j hi hj,ht5];rfl
    obtain ⟨g,hg,eg⟩:∃ g:Int,(valP ys (kp x.2.1 x.2.2)).getD (.int (t3+price es i pr x.1))=.int g/\(T x.2.1 x.2.2).getD (t3+price es i pr x.1)=g:=by
     rw [hHo5 _ _ hw.1 hw.2.1]
     cases T x.2.1 x.2.2 with
     | none=>exact ⟨_,rfl,rfl⟩
     | some u=>exact ⟨u,rfl,rfl⟩
    have erel:=rel_min (pr:=fun i st=>price es i pr st) ht5 eg
    rw [erel] at hI6 ht6
    refine ⟨_,_,rfl,SqT.of hb,rfl,_,_,rfl,_,_,rfl,_,_,rfl,rfl,?_⟩
    refine ⟨_,rfl,d,ys,rfl,h5d,_,rfl,_,rfl,_,rfl,d,ys,kp i j,a,.int t3,rfl,rfl,h5d,hkk5,h5a,hvk,_,rfl,_,_,rfl,rfl,d,ys,kp x.2.1 x.2.2,e,_,rfl,rfl,h5d,hkk5,he',?_⟩
    rw [hg]
    refine ⟨_,rfl,_,rfl,d,ys,kp i j,a,.int t3,rfl,rfl,h5d,hkk5,h5a,hvk,_,rfl,_,_,rfl,rfl,_,_,rfl,?_⟩
    refine ⟨_,rfl,_,rfl,d,ys,kp x.2.1 x.2.2,e,rfl,rfl,h5d,hkk5,he',(by omega),?_⟩
    refine ⟨_,_,_,_,_,rfl,upd_same,hkk5.put he' (fun c zs h=>by rw [upd_ne (tup_dp h h5d)];exact h),(by have:=putP_len ys (kp x.2.1 x.2.2) e (.int (if t3+price es i pr x.1 < g then t3+price es i pr x.1 else g));omega),hHo5.put,hI6,ht6,X5.trans Sx.upd,same_to S5 hd⟩
   ·rintro σ H5 ⟨ys,T,v5,v6,v7,rfl,h5d,hkk5,hyl5,hHo5,hI5,ht5,X5,S5⟩
    rw [List.length_map,hA.len] at hyl5 hI5
    rw [List.take_length,<-hws] at hI5
    refine ⟨ys,T,_,_,_,_,rfl,h5d,hkk5,by omega,hHo5,?_,(X3.trans (Sx.of S4)).trans X5,S5⟩
    rw [<-ecode]
    exact hI5.congr (goneK_next hi hj)
  ·rintro σ H3 ⟨ys,T,v4,v5,v6,v7,rfl,h3d,hk3,hyl,hHo,hI,X3,S3⟩
   rw [lks] at hI
   obtain ⟨hall,hL⟩:=(hI.congr goneK_end).least (ways_fwd es cs) (ways_come es cs)
   have hvs:∀ i j,i<=es.length->j<=cs.length->valP ys (kp i j)=some (.int ((T i j).getD 0)):=fun i j hi hj=>by
    obtain ⟨v,hv⟩:=hall i j hi hj
    rw [hHo i j hi hj,hv]
    rfl
   refine ⟨_,rfl,p,_,rfl,.inr (sameT S3 hp),_,_,rfl,rfl,_,rfl,by omega,by omega,?_⟩
   rw [hle,show ((es.length:Int)+1).toNat=es.length+1 by omega]
   refine comp_grow (as:=List.range (es.length+1)) (v:=fun k=>.int (0+((k:Nat):Int))) (fun i acc H'=>∃ ps:List Addr,acc=ps.map V.ref/\ps.length=i/\(∀ j y,ps[j]?=some y->H' y=some (.tup ((List.range (cs.length+1)).map fun b=>V.int ((T j b).getD 0))))/\Same H3 H')
    (fun i acc H' _ _=>src_range 0 (es.length+1) H') (by rw [List.length_range];exact few (by omega)) ⟨[],rfl,rfl,(fun j y z=>by simp at z),Same.refl _⟩ (fun i acc H' ⟨ps,e,hl,_⟩=>by rw [e,List.length_map,hl]) ?_ ?_
   ·rintro i k acc H' hk' ⟨ps,rfl,hpl,hrow,S⟩ kk hkk
    have hki:k=i:=by
     obtain ⟨h1,h2⟩:=List.getElem?_eq_some_iff.mp hk'
     rw [List.getElem_range] at h2
     exact h2.symm
    subst hki
    have hkm:k<=es.length:=by have:=List.mem_range.mp (List.mem_of_getElem? hk');omega
    have ei:(0:Int)+((k:Nat):Int)=((k:Nat):Int):=by omega
    rw [ei]
    refine ⟨_,rfl,q0,_,rfl,.inr (sameT (S3.trans S) hc),_,_,rfl,rfl,_,rfl,by omega,by omega,?_⟩
    rw [hlc,show ((cs.length:Int)+1).toNat=cs.length+1 by omega]
    refine comp_grow (as:=List.range (cs.length+1)) (v:=fun k=>.int (0+((k:Nat):Int))) (fun j acc H''=>acc=(List.range j).map (fun b=>V.int ((T k b).getD 0))/\Same H' H'')
     (fun i acc H'' _ _=>src_range 0 (cs.length+1) H'') (by rw [List.length_range];exact few (by omega)) ⟨rfl,Same.refl _⟩ (fun i acc H'' ⟨e,_⟩=>by rw [e,List.length_map,List.length_range]) ?_ ?_
    ·rintro j k2 acc H'' hk2 ⟨rfl,S'⟩ kk2 hkk2
     have hkj:k2=j:=by
      obtain ⟨h1,h2⟩:=List.getElem?_eq_some_iff.mp hk2
      rw [List.getElem_range] at h2
      exact h2.symm
     subst hkj
     have hkn:k2<=cs.length:=by have:=List.mem_range.mp (List.mem_of_getElem? hk2);omega
     have ej:(0:Int)+((k2:Nat):Int)=((k2:Nat):Int):=by omega
     rw [ej]
     refine ⟨_,rfl,_,rfl,_,rfl,few (by show 2<=_;omega),fun bt hbt=>?_⟩
     have Tt:=same_upd (o:=.tup [V.int ((k:Nat):Int),.int ((k2:Nat):Int)]) hbt
     have S'':=(S.trans S').trans Tt
     refine ⟨d,ys,kp k k2,bt,_,rfl,rfl,S'' _ _ h3d,(fun y hy=>S'' _ _ (hk3 y hy)),upd_same,hvs k k2 hkm hkn,hkk2 _ _ ⟨?_,S'.trans Tt⟩⟩
     rw [List.range_succ,List.map_append]
     rfl
    ·rintro acc H'' ⟨rfl,S'⟩ D hD
     have SD:=same_upd (o:=.lst ((List.range (cs.length+1)).map fun b=>V.int ((T k b).getD 0))) hD
     rw [List.length_range]
     refine ⟨D,_,rfl,.inl ⟨SqL.of upd_same,fun t ht=>?_⟩⟩
     have St:=same_upd (o:=.tup ((List.range (cs.length+1)).map fun b=>V.int ((T k b).getD 0))) ht
     refine hkk _ _ ⟨ps++[t],by rw [List.map_append];rfl,by rw [List.length_append,hpl];rfl,fun j y hy=>?_,((S.trans S').trans SD).trans St⟩
     by_cases hjl:j < ps.length
     ·rw [List.getElem?_append_left hjl] at hy
      exact St _ _ (SD _ _ (S' _ _ (hrow j y hy)))
     ·rw [List.getElem?_append_right (by omega)] at hy
      have hj0:j - ps.length=0:=by
       have:=(List.getElem?_eq_some_iff.mp hy).1
       simp at this
       omega
      rw [hj0] at hy
      simp at hy
      have:j=k:=by omega
      rw [<-hy,upd_same,this]
   ·rintro acc H' ⟨ps,rfl,hpl,hrow,S⟩ D hD
    have SD:=same_upd (o:=.lst (ps.map V.ref)) hD
    refine ⟨D,_,rfl,.inl ⟨SqL.of upd_same,fun t ht=>?_⟩⟩
    have St:=same_upd (o:=.tup (ps.map V.ref)) ht
    rw [List.length_range] at hpl
    exact q _ t ps (fun i j=>(T i j).getD 0) (((S3.trans S).trans SD).trans St) ⟨upd_same,hpl,fun i y e=>St _ _ (SD _ _ (hrow i y e))⟩ hL
theorem after_way {es cs:List Str} {i j d:Nat} {st:Sk} {ws:List Str} (ha:after es i (cs.take j).getLast? st=some (d,ws)) (hj:j+ws.length<=cs.length) (hw:(cs.drop j).take ws.length=ws) (ho:okS st):(st,d,j+ws.length) ∈ ways es cs i j:=by
 unfold after at ha
 split at ha
 ·rename_i hf
  cases ha
  unfold ways
  simp only [List.mem_append]
  cases st with
  | keep=>
   have hi:i < es.length:=of_decide_eq_true hf
   have hj':j < cs.length:=hj
   have e:[gt cs j]=[gt es i]:=by rw [<-drop_one hj'];exact hw
   have e:gt cs j=gt es i:=(List.cons.inj e).1
   left;left;left;left;left
   unfold w1
   rw [if_pos ⟨hi,hj'⟩,if_pos e.symm]
   exact List.mem_singleton.mpr rfl
  | turn z=>
   obtain ⟨h1,h2⟩:=Bool.and_eq_true_iff.mp (show (decide (i < es.length) && !decide (es[i]?=some z))=true from hf)
   have hi:=of_decide_eq_true h1
   have hj':j < cs.length:=hj
   have e:[gt cs j]=[z]:=by rw [<-drop_one hj'];exact hw
   have e:gt cs j=z:=(List.cons.inj e).1
   have hn:¬ gt es i=gt cs j:=fun c=>by
    rw [some_dec hi,c,e,decide_eq_true rfl] at h2
    exact Bool.false_ne_true h2
   left;left;left;left;left
   unfold w1
   rw [if_pos ⟨hi,hj'⟩,if_neg hn,e]
   exact List.mem_singleton.mpr rfl
  | lose=>
   have hi:i < es.length:=of_decide_eq_true hf
   left;left;left;left;right
   unfold w2
   rw [if_pos hi]
   exact List.mem_singleton.mpr rfl
  | add z=>
   have hj':j < cs.length:=hj
   have e:[gt cs j]=[z]:=by rw [<-drop_one hj'];exact hw
   have e:gt cs j=z:=(List.cons.inj e).1
   left;left;left;right
   unfold w3
   rw [if_pos hj',e]
   exact List.mem_singleton.mpr rfl
  | twice=>
   have h0:0 < j:=by
    rcases Nat.eq_zero_or_pos j with c | c
    ·rw [c,List.take_zero] at hf
     cases hf
    ·exact c
   have hj0:j<=cs.length:=by omega
   rw [take_last h0 hj0] at hj hw ⊢
   have hj':j < cs.length:=hj
   have e:[gt cs j]=[gt cs (j - 1)]:=by rw [<-drop_one hj'];exact hw
   left;left;right
   unfold w4
   rw [if_pos ⟨h0,hj',(List.cons.inj e).1⟩]
   exact List.mem_singleton.mpr rfl
  | swap=>
   obtain ⟨h1,h2⟩:=Bool.and_eq_true_iff.mp (show (decide (i+1 < es.length) && !decide (es[i]?=es[i+1]?))=true from hf)
   have hi:=of_decide_eq_true h1
   have hn:¬ gt es i=gt es (i+1):=fun c=>by
    rw [gt_of hi,some_dec (by omega),c,decide_eq_true rfl] at h2
    exact Bool.false_ne_true h2
   left;right
   unfold w5 swapW
   have hw2:(cs.drop j).take 2=[gt es (i+1),gt es i]:=hw
   rw [if_pos hi,if_neg hn,if_pos (decide_eq_true hw2)]
   exact List.mem_singleton.mpr rfl
  | skip m=>
   obtain ⟨h1,h2⟩:=Bool.and_eq_true_iff.mp (show (decide (1<=i/\i+m<=es.length) && decide (es[i+m - 1]?=es[i - 1]?))=true from hf)
   have hi:=of_decide_eq_true h1
   have hm:=ho.1
   have e:=of_decide_eq_true h2
   rw [gt_of (show i+m - 1 < es.length by omega),gt_of (show i - 1 < es.length by omega)] at e
   have e:=Option.some.inj e
   right
   unfold w6
   refine List.mem_map.mpr ⟨m,?_,rfl⟩
   unfold skips
   rw [if_neg (by omega)]
   refine List.mem_map.mpr ⟨m - 1,List.mem_filter.mpr ⟨List.mem_range.mpr (by omega),decide_eq_true ?_⟩,by omega⟩
   rw [show i+(m - 1)=i+m - 1 by omega]
   exact e
 ·cases ha
theorem walk_grow {es:List Str}:∀ (sts:List Sk) (x y:WS),walk es sts x=some y->∃ m,y.2.1=x.2.1++m
 | [],x,y,h=>by cases h;exact ⟨[],(List.append_nil _).symm⟩
 | st :: r,x,y,h=>by
  have h':(walk1 es x st).bind (walk es r)=some y:=h
  cases hw:walk1 es x st with
  | none=>rw [hw] at h';cases h'
  | some z=>
   rw [hw] at h'
   obtain ⟨m,em⟩:=walk_grow r z y h'
   unfold walk1 at hw
   cases ha:after es x.1 x.2.1.getLast? st with
   | none=>rw [ha] at hw;cases hw
   | some u=>
    rw [ha] at hw
    cases hw
    exact ⟨u.2++m,by rw [em];simp⟩
theorem walk_way {es cs:List Str} {sts:List Sk} {pl plk:List Nat} {k d d':Nat} {st:Sk} {cp ws:List Str} (hwk:walk es sts (0,[],[])=some (es.length,cs,pl)) (hi:sts[k]?=some st) (hw:walk es (sts.take k) (0,[],[])=some (d,cp,plk)) (ha:after es d cp.getLast? st=some (d',ws)) (ho:okS st) :
  (st,d',cp.length+ws.length) ∈ ways es cs d cp.length/\cp.length+ws.length<=cs.length/\cp=cs.take cp.length:=by
 have wt:=walk_turn hi hw
 rw [ha] at wt
 have hs:walk es (sts.take (k+1)++sts.drop (k+1)) (0,[],[])=some (es.length,cs,pl):=by rw [List.take_append_drop];exact hwk
 rw [walk_append,wt] at hs
 obtain ⟨m,em⟩:=walk_grow _ _ _ hs
 have em:cs=(cp++ws)++m:=em
 have e1:cp=cs.take cp.length:=by rw [em,List.append_assoc,List.take_left]
 have e2:(cs.drop cp.length).take ws.length=ws:=by rw [em,List.append_assoc,List.drop_left,List.take_left]
 have e3:cp.length+ws.length<=cs.length:=by rw [em,List.length_append,List.length_append];omega
 refine ⟨after_way ?_ e3 e2 ho,e3,e1⟩
 rw [<-e1]
 exact ha
theorem cut_from (es:List Str) (d:Nat):cutV (es.map V.str) (some (d:Int)) none=(es.drop d).map V.str:=by
 unfold cutV
 rw [HT.sIx_none,HT.sIx_nat,List.length_map,List.map_drop]
 have e:(es.map V.str).drop (min d es.length)=(es.map V.str).drop d:=by
  have:=drop_min (es.map V.str) d
  rw [List.length_map] at this
  exact this
 rw [e]
 exact List.take_of_length_le (by rw [List.length_drop,List.length_map];omega)
theorem drop_at {es:List Str} {d k:Nat} (h:d+k < es.length):atI ((es.drop d).map V.str) (k:Int)=some (.str (gt es (d+k))):=by
 refine atI_nat ?_
 rw [List.getElem?_map,List.getElem?_drop,gt_of h]
 rfl
theorem last_some {cp:List Str} (h:cp ≠ []):cp.getLast?.isSome=true:=by
 cases e:cp.getLast? with
 | none=>exact absurd (List.getLast?_eq_none_iff.mp e) h
 | some z=>rfl
theorem last_len (cp:List Str):cp.getLast?.toList.length<=1:=by cases cp.getLast? <;> simp
theorem cut_last {cp:List Str} (h:cp ≠ []):cutV (cp.map V.str) (some (-1)) none=(cp.getLast?.toList).map V.str:=by
 have hl:cp.length ≠ 0:=fun z=>h (List.length_eq_zero_iff.mp z)
 have e:=cut_tail cp cp.length (Nat.le_refl _)
 rw [List.take_length,if_neg hl] at e
 rw [e]
 congr 1
 rw [List.getLast?_eq_getElem?,gt_of (by omega)]
 rfl
def spDoes (K:PySem.W.Frag):Sp:=fun vs H Q _=>∃ (p t c:Addr) (es cp:List Str) (d:Nat) (st:Sk),vs=[.ref p,.int (d:Nat),.ref c,.ref t]/\SqT K H p (es.map V.str)/\SqT K H c (cp.map V.str)/\SqT K H t (stepV st)/\okS st/\d<=es.length/\cp.length<=10000 ∧
 match after es d cp.getLast? st with
 | some (d',ws)=>∀ (H':Hp) (x y:Addr),Same H H'->SqT K H' y ((cp++ws).map V.str)->H' x=some (.tup [.int (d':Nat),.ref y])->Q (.ref x) H'
 | none=>∀ H',Same H H'->Q .non H'
theorem scDoes:FnScope ["elder","done","copy","step","ahead"] ["elder","done","copy","step"] (defScope sDoes):=⟨rfl,rfl,rfl,by decide +kernel,rfl,by decide +kernel,by decide +kernel⟩
theorem ok_does {f:Addr} {fd:FuncData} (F:Fun K "_law_does" "_law_does" sDoes f fd) (mlen:mg "len" = none):FnOk P w K mg base CX0 1 f fd ["elder","done","copy","step"] (spDoes K):=by
 refine F.ok scDoes (fun vs H Q E h=>?_) (fun cdv A outer s H vs Q E hr h=>?_)
 ·obtain ⟨p,t,c,es,cp,d,st,rfl,_⟩:=h
  rfl
 ·obtain ⟨p,t,c,es,cp,d,st,rfl,hp,hc,ht,hok,hde,hcl,q⟩:=h
  refine ⟨_,pss_cons (ps_set (i:=4) scDoes.nd rfl (Or.inl rfl) (pe_slice sl_tupA (pv 0) (po_some (pv 1)) po_none))
   (pss_cons (ps_if (pt_cmpR op_eq (pe_ix ix_tup (pv 3) pe_int (fun _ _=>rfl)) pe_str (nomark _)) (pss_one (ps_ret (pe_tup (pa_cons (pv 1) (pa_cons (pe_op op_catA (pv 2) (pe_tup (pa_cons (pe_ix ix_tup (pv 3) pe_int (fun _ _=>rfl)) pa_nil))) pa_nil))))) pss_nil)
   (pss_cons (ps_if (PW.pt (pw_and (pt_cmpR op_eq (pe_ix ix_tup (pv 3) pe_int (fun _ _=>rfl)) pe_str (nomark _)) (pw_and1 (pt_cmpR (op_neS hr.units) (pv 2) (pe_tup pa_nil) (nomark _))))) (pss_one (ps_ret (pe_tup (pa_cons (pv 1) (pa_cons (pe_op op_catA (pv 2) (pe_slice sl_tupA (pv 2) (po_some (pe_un un_neg pe_int)) po_none)) pa_nil))))) pss_nil)
   (pss_cons (ps_if (PW.pt (pw_and (pt_cmpR op_eq (pe_ix ix_tup (pv 3) pe_int (fun _ _=>rfl)) pe_str (nomark _)) (pw_and1 (pt_cmpR (op_neS hr.units) (pv 4) (pe_tup pa_nil) (nomark _))))) (pss_one (ps_ret (pe_tup (pa_cons (pe_op op_add (pv 1) pe_int) (pa_cons (pe_op op_catA (pv 2) (pe_slice sl_tupA (pv 4) po_none (po_some pe_int))) pa_nil))))) pss_nil)
   (pss_cons (ps_if (PW.pt (pw_and (pt_cmpR op_eq (pe_ix ix_tup (pv 3) pe_int (fun _ _=>rfl)) pe_str (nomark _)) (pw_and (pt_cmpR (op_neS hr.units) (pv 4) (pe_tup pa_nil) (nomark _)) (pw_and1 (pt_cmpR op_ne (pe_ix ix_tup (pv 4) pe_int (fun _ _=>rfl)) (pe_ix ix_tup (pv 3) pe_int (fun _ _=>rfl)) (nomark _)))))) (pss_one (ps_ret (pe_tup (pa_cons (pe_op op_add (pv 1) pe_int) (pa_cons (pe_op op_catA (pv 2) (pe_tup (pa_cons (pe_ix ix_tup (pv 3) pe_int (fun _ _=>rfl)) pa_nil))) pa_nil))))) pss_nil)
   (pss_cons (ps_if (PW.pt (pw_and (pt_cmpR op_eq (pe_ix ix_tup (pv 3) pe_int (fun _ _=>rfl)) pe_str (nomark _)) (pw_and1 (pt_cmpR (op_neS hr.units) (pv 4) (pe_tup pa_nil) (nomark _))))) (pss_one (ps_ret (pe_tup (pa_cons (pe_op op_add (pv 1) pe_int) (pa_cons (pv 2) pa_nil))))) pss_nil)
   (pss_cons (ps_if (PW.pt (pw_and (pt_cmpR op_eq (pe_ix ix_tup (pv 3) pe_int (fun _ _=>rfl)) pe_str (nomark _)) (pw_and (pt_cmpR op_gt (pe_callB call_len_seq (by rfl) mlen PySem.boot_len (pa_cons (pv 4) pa_nil)) pe_int (nomark _)) (pw_and1 (pt_cmpR op_ne (pe_ix ix_tup (pv 4) pe_int (fun _ _=>rfl)) (pe_ix ix_tup (pv 4) pe_int (fun _ _=>rfl)) (nomark _)))))) (pss_one (ps_ret (pe_tup (pa_cons (pe_op op_add (pv 1) pe_int) (pa_cons (pe_op op_catA (pv 2) (pe_tup (pa_cons (pe_ix ix_tup (pv 4) pe_int (fun _ _=>rfl)) (pa_cons (pe_ix ix_tup (pv 4) pe_int (fun _ _=>rfl)) pa_nil)))) pa_nil))))) pss_nil)
   (pss_cons (ps_if (PW.pt (pw_and (pt_cmpR op_eq (pe_ix ix_tup (pv 3) pe_int (fun _ _=>rfl)) pe_str (nomark _)) (pw_and (pt_cmpR op_gt (pv 1) pe_int (nomark _)) (pw_and (pt_cmpR op_le (pe_ix ix_tup (pv 3) pe_int (fun _ _=>rfl)) (pe_callB call_len_seq (by rfl) mlen PySem.boot_len (pa_cons (pv 4) pa_nil)) (nomark _)) (pw_and1 (pt_cmpR op_eq (pe_ix ix_tup (pv 4) (pe_op op_sub (pe_ix ix_tup (pv 3) pe_int (fun _ _=>rfl)) pe_int) (fun _ _=>rfl)) (pe_ix ix_tup (pv 0) (pe_op op_sub (pv 1) pe_int) (fun _ _=>rfl)) (nomark _))))))) (pss_one (ps_ret (pe_tup (pa_cons (pe_op op_add (pv 1) (pe_ix ix_tup (pv 3) pe_int (fun _ _=>rfl))) (pa_cons (pv 2) pa_nil))))) pss_nil)
   (pss_one (ps_ret pe_non))))))))),?_⟩
  refine ⟨_,rfl,_,rfl,_,rfl,?_⟩
  unfold tNoPart
  refine cutTup hp fun r H1 S1 hl=>?_
  rw [cut_from] at hl
  have ht1:=sameT S1 ht
  have hc1:=sameT S1 hc
  have hp1:=sameT S1 hp
  have z1:(1:Nat)<=sizeLine:=few (by omega)
  have z2:(2:Nat)<=sizeLine:=few (by omega)
  have hdl:((es.drop d).map V.str).length=es.length - d:=by rw [List.length_map,List.length_drop]
  have no:fitsB es d cp.getLast? st=false->∀ {H2:Hp},Same H H2->Q .non H2:=fun e H2 S=>by
   unfold after at q
   rw [e,if_neg Bool.false_ne_true] at q
   exact q H2 S
  have yes:fitsB es d cp.getLast? st=true->∀ {H2:Hp} {y:Addr},Same H H2->SqT K H2 y ((cp++ww es d cp.getLast? st).map V.str)->∀ b,H2 b=none->Q (.ref b) (upd H2 b (.tup [.int ((d+wd st:Nat):Int),.ref y])):=fun e H2 y S hy b hb=>by
   unfold after at q
   rw [e,if_pos rfl] at q
   exact q _ b y (S.trans (same_upd hb)) (sameT (same_upd hb) hy) upd_same
  have ne0:∀ {H2:Hp} {a:Addr} {X:List Str},SqT K H2 a (X.map V.str)->∀ t,H2 t=none->EqS K (upd H2 t (.tup [])) 0 (.ref a) (.ref t) (decide (X=[])):=fun {H2 a X} h t ht=>EqS.strs (ys:=[]) (.inr ⟨sameT (same_upd ht) h,SqT.of upd_same⟩)
  have catE:∀ {H4:Hp} {u:Addr} {ys:List Str},SqT K H4 u (cp.map V.str++ys.map V.str)->SqT K H4 u ((cp++ys).map V.str):=fun {H4 u ys} h=>by rw [List.map_append];exact h
  have gt1:decide ((1:Int) < (((es.drop d).map V.str).length:Int))=decide (d+1 < es.length):=by rw [hdl];exact decide_eq_decide.mpr (by omega)
  have at0:d < es.length->atI ((es.drop d).map V.str) 0=some (.str (gt es d)):=fun h=>drop_at (k:=0) h
  have at1:d+1 < es.length->atI ((es.drop d).map V.str) 1=some (.str (gt es (d+1))):=fun h=>drop_at (k:=1) h
  have dropN:d < es.length->¬ es.drop d=[]:=fun h z=>by have:=congrArg List.length z;rw [List.length_drop] at this;simp at this;omega
  have dropY:¬ d < es.length->es.drop d=[]:=fun h=>List.drop_of_length_le (by omega)
  cases st with
  | add y=>
    exact ⟨_,rfl,t,_,_,_,rfl,rfl,ht1,rfl,rfl,_,rfl,iteY rfl ⟨_,rfl,_,rfl,_,rfl,t,_,_,_,rfl,rfl,ht1,rfl,z1,fun a ha=>⟨c,_,_,_,rfl,rfl,sameT (same_upd ha) hc1,SqT.of (upd_same (o:=.tup [.str y])),(by rw [List.length_map];exact few (by show _+1<=_;omega)),fun u H4 S4 hu=>⟨z2,yes rfl (S1.trans ((same_upd ha).trans S4)) (catE (ys:=[y]) hu)⟩⟩⟩⟩
  | twice=>
    refine ⟨_,rfl,t,_,_,_,rfl,rfl,ht1,rfl,rfl,_,rfl,iteK (by decide +kernel) ?_⟩
    refine ⟨_,rfl,t,_,_,_,rfl,rfl,ht1,rfl,rfl,_,rfl,iteY rfl ⟨_,rfl,Nat.zero_le _,fun t0 ht0=>⟨0,_,by decide,ne0 hc1 t0 ht0,_,rfl,?_⟩⟩⟩
    have St:=same_upd (o:=.tup []) ht0
    by_cases h:cp=[]
    ·rw [decide_eq_true h]
     exact iteF ⟨_,rfl,t,_,_,_,rfl,rfl,(sameT St ht1),rfl,rfl,_,rfl,iteK (by decide +kernel) (iteF ⟨_,rfl,t,_,_,_,rfl,rfl,(sameT St ht1),rfl,rfl,_,rfl,iteK (by decide +kernel) (iteF ⟨_,rfl,t,_,_,_,rfl,rfl,(sameT St ht1),rfl,rfl,_,rfl,iteK (by decide +kernel) (iteF ⟨_,rfl,t,_,_,_,rfl,rfl,(sameT St ht1),rfl,rfl,_,rfl,iteK (by decide +kernel) (iteF ⟨_,rfl,t,_,_,_,rfl,rfl,(sameT St ht1),rfl,rfl,_,rfl,iteK (by decide +kernel) (iteF (no (by rw [h];rfl) (S1.trans St)))⟩)⟩)⟩)⟩)⟩
    ·rw [decide_eq_false h]
     refine iteT ⟨_,rfl,_,rfl,_,rfl,_,rfl,_,rfl,?_⟩
     show rSlTA K (V.ref c) (some (-1)) none _ _
     refine cutTup (sameT St hc1) fun u H3 S3 hu=>?_
     rw [show cutV (cp.map V.str) (some (-1)) none=_ from cut_last h] at hu
     exact ⟨c,_,_,_,rfl,rfl,sameT (St.trans S3) hc1,hu,(by rw [List.length_map,List.length_map];have:=last_len cp;exact few (by omega)),fun u H4 S4 hu=>⟨z2,yes (last_some h) (S1.trans ((St.trans S3).trans S4)) (catE (ys:=cp.getLast?.toList) hu)⟩⟩
  | keep=>
    refine ⟨_,rfl,t,_,_,_,rfl,rfl,ht1,rfl,rfl,_,rfl,iteK (by decide +kernel) ?_⟩
    refine ⟨_,rfl,t,_,_,_,rfl,rfl,ht1,rfl,rfl,_,rfl,iteK (by decide +kernel) (iteF ?_)⟩
    refine ⟨_,rfl,t,_,_,_,rfl,rfl,ht1,rfl,rfl,_,rfl,iteY rfl ⟨_,rfl,Nat.zero_le _,fun t0 ht0=>⟨0,_,by decide,ne0 hl t0 ht0,_,rfl,?_⟩⟩⟩
    have St:=same_upd (o:=.tup []) ht0
    by_cases h:d < es.length
    ·rw [decide_eq_false (dropN h)]
     refine iteT ⟨_,rfl,_,_,rfl,rfl,_,rfl,_,rfl,_,rfl,cutTup (sameT St hl) fun u H3 S3 hu=>?_⟩
     rw [show cutV ((es.drop d).map V.str) none (some 1)=_ from cutTake V.str (es.drop d) 1,one_yes h] at hu
     exact ⟨c,_,_,_,rfl,rfl,sameT (St.trans S3) hc1,hu,(by rw [List.length_map];exact few (by show _+1<=_;omega)),fun u H4 S4 hu=>⟨z2,yes (decide_eq_true h) (S1.trans ((St.trans S3).trans S4)) (catE (ys:=[gt es d]) hu)⟩⟩
    ·rw [decide_eq_true (dropY h)]
     exact iteF ⟨_,rfl,t,_,_,_,rfl,rfl,(sameT St ht1),rfl,rfl,_,rfl,iteK (by decide +kernel) (iteF ⟨_,rfl,t,_,_,_,rfl,rfl,(sameT St ht1),rfl,rfl,_,rfl,iteK (by decide +kernel) (iteF ⟨_,rfl,t,_,_,_,rfl,rfl,(sameT St ht1),rfl,rfl,_,rfl,iteK (by decide +kernel) (iteF ⟨_,rfl,t,_,_,_,rfl,rfl,(sameT St ht1),rfl,rfl,_,rfl,iteK (by decide +kernel) (iteF (no (decide_eq_false h) (S1.trans St)))⟩)⟩)⟩)⟩
  | turn y=>
    refine ⟨_,rfl,t,_,_,_,rfl,rfl,ht1,rfl,rfl,_,rfl,iteK (by decide +kernel) ?_⟩
    refine ⟨_,rfl,t,_,_,_,rfl,rfl,ht1,rfl,rfl,_,rfl,iteK (by decide +kernel) (iteF ?_)⟩
    refine ⟨_,rfl,t,_,_,_,rfl,rfl,ht1,rfl,rfl,_,rfl,iteK (by decide +kernel) (iteF ?_)⟩
    refine ⟨_,rfl,t,_,_,_,rfl,rfl,ht1,rfl,rfl,_,rfl,iteY rfl ⟨_,rfl,Nat.zero_le _,fun t0 ht0=>⟨0,_,by decide,ne0 hl t0 ht0,_,rfl,?_⟩⟩⟩
    have St:=same_upd (o:=.tup []) ht0
    by_cases h:d < es.length
    ·rw [decide_eq_false (dropN h)]
     have ef:fitsB es d cp.getLast? (.turn y)=!decide (V.str (gt es d)=V.str y):=by
      show (decide (d < es.length) && !decide (es[d]?=some y))=_
      rw [decide_eq_true h,Bool.true_and,some_dec h,str_dec]
     refine iteT ⟨_,rfl,r,_,_,_,rfl,rfl,sameT St hl,at0 h,_,rfl,t,_,_,_,rfl,rfl,sameT St ht1,rfl,rfl,_,rfl,ite2 (fun h2=>?_) (fun h2=>?_)⟩
     ·exact ⟨_,rfl,_,_,rfl,rfl,_,rfl,_,rfl,t,_,_,_,rfl,rfl,sameT St ht1,rfl,z1,fun a ha=>⟨c,_,_,_,rfl,rfl,sameT (St.trans (same_upd ha)) hc1,SqT.of (upd_same (o:=.tup [.str y])),(by rw [List.length_map];exact few (by show _+1<=_;omega)),fun u H4 S4 hu=>⟨z2,yes (ef.trans h2) (S1.trans ((St.trans (same_upd ha)).trans S4)) (catE (ys:=[y]) hu)⟩⟩⟩
     ·exact ⟨_,rfl,t,_,_,_,rfl,rfl,(sameT St ht1),rfl,rfl,_,rfl,iteK (by decide +kernel) (iteF ⟨_,rfl,t,_,_,_,rfl,rfl,(sameT St ht1),rfl,rfl,_,rfl,iteK (by decide +kernel) (iteF ⟨_,rfl,t,_,_,_,rfl,rfl,(sameT St ht1),rfl,rfl,_,rfl,iteK (by decide +kernel) (iteF (no (by rw [ef];exact Bool.eq_false_iff.mpr h2) (S1.trans St)))⟩)⟩)⟩
    ·rw [decide_eq_true (dropY h)]
     refine iteF (iteF ⟨_,rfl,t,_,_,_,rfl,rfl,(sameT St ht1),rfl,rfl,_,rfl,iteK (by decide +kernel) (iteF ⟨_,rfl,t,_,_,_,rfl,rfl,(sameT St ht1),rfl,rfl,_,rfl,iteK (by decide +kernel) (iteF ⟨_,rfl,t,_,_,_,rfl,rfl,(sameT St ht1),rfl,rfl,_,rfl,iteK (by decide +kernel) (iteF (no ?_ (S1.trans St)))⟩)⟩)⟩)
     show (decide (d < es.length) && !decide (es[d]?=some y))=_
     rw [decide_eq_false h,Bool.false_and]
  | lose=>
    refine ⟨_,rfl,t,_,_,_,rfl,rfl,ht1,rfl,rfl,_,rfl,iteK (by decide +kernel) ?_⟩
    refine ⟨_,rfl,t,_,_,_,rfl,rfl,ht1,rfl,rfl,_,rfl,iteK (by decide +kernel) (iteF ?_)⟩
    refine ⟨_,rfl,t,_,_,_,rfl,rfl,ht1,rfl,rfl,_,rfl,iteK (by decide +kernel) (iteF ?_)⟩
    refine ⟨_,rfl,t,_,_,_,rfl,rfl,ht1,rfl,rfl,_,rfl,iteK (by decide +kernel) (iteF ?_)⟩
    refine ⟨_,rfl,t,_,_,_,rfl,rfl,ht1,rfl,rfl,_,rfl,iteY rfl ⟨_,rfl,Nat.zero_le _,fun t0 ht0=>⟨0,_,by decide,ne0 hl t0 ht0,_,rfl,?_⟩⟩⟩
    have St:=same_upd (o:=.tup []) ht0
    by_cases h:d < es.length
    ·rw [decide_eq_false (dropN h)]
     exact iteT ⟨_,rfl,_,_,rfl,rfl,_,rfl,z2,yes (decide_eq_true h) (S1.trans St) (by show SqT K _ c ((cp++[]).map V.str);rw [List.append_nil];exact sameT St hc1)⟩
    ·rw [decide_eq_true (dropY h)]
     exact iteF ⟨_,rfl,t,_,_,_,rfl,rfl,(sameT St ht1),rfl,rfl,_,rfl,iteK (by decide +kernel) (iteF ⟨_,rfl,t,_,_,_,rfl,rfl,(sameT St ht1),rfl,rfl,_,rfl,iteK (by decide +kernel) (iteF (no (decide_eq_false h) (S1.trans St)))⟩)⟩
  | swap=>
    refine ⟨_,rfl,t,_,_,_,rfl,rfl,ht1,rfl,rfl,_,rfl,iteK (by decide +kernel) ?_⟩
    refine ⟨_,rfl,t,_,_,_,rfl,rfl,ht1,rfl,rfl,_,rfl,iteK (by decide +kernel) (iteF ?_)⟩
    refine ⟨_,rfl,t,_,_,_,rfl,rfl,ht1,rfl,rfl,_,rfl,iteK (by decide +kernel) (iteF ?_)⟩
    refine ⟨_,rfl,t,_,_,_,rfl,rfl,ht1,rfl,rfl,_,rfl,iteK (by decide +kernel) (iteF ?_)⟩
    refine ⟨_,rfl,t,_,_,_,rfl,rfl,ht1,rfl,rfl,_,rfl,iteK (by decide +kernel) (iteF ?_)⟩
    refine ⟨_,rfl,t,_,_,_,rfl,rfl,ht1,rfl,rfl,_,rfl,iteY rfl ⟨_,rfl,r,_,rfl,.inr hl,_,_,rfl,rfl,_,rfl,?_⟩⟩
    rw [gt1]
    refine ite2 (fun h=>?_) (fun h=>iteF ⟨_,rfl,t,_,_,_,rfl,rfl,ht1,rfl,rfl,_,rfl,iteK (by decide +kernel) (iteF (no ?_ S1))⟩)
    ·have hd:=of_decide_eq_true h
     have ef:fitsB es d cp.getLast? .swap=!decide (V.str (gt es d)=V.str (gt es (d+1))):=by
      show (decide (d+1 < es.length) && !decide (es[d]?=es[d+1]?))=_
      rw [h,Bool.true_and,gt_of hd,some_dec (by omega),str_dec]
     refine ⟨_,rfl,r,_,_,_,rfl,rfl,hl,at0 (by omega),_,rfl,r,_,_,_,rfl,rfl,hl,at1 hd,rfl,_,rfl,ite2 (fun h2=>?_) (fun h2=>⟨_,rfl,t,_,_,_,rfl,rfl,ht1,rfl,rfl,_,rfl,iteK (by decide +kernel) (iteF (no (by rw [ef];exact Bool.eq_false_iff.mpr h2) S1))⟩)⟩
     exact ⟨_,rfl,_,_,rfl,rfl,_,rfl,_,rfl,r,_,_,_,rfl,rfl,hl,at1 hd,_,rfl,r,_,_,_,rfl,rfl,hl,at0 (by omega),z2,fun a ha=>⟨c,_,_,_,rfl,rfl,sameT (same_upd ha) hc1,SqT.of (upd_same (o:=.tup [.str (gt es (d+1)),.str (gt es d)])),(by rw [List.length_map];exact few (by show _+2<=_;omega)),fun u H4 S4 hu=>⟨z2,yes (ef.trans h2) (S1.trans ((same_upd ha).trans S4)) (catE (ys:=[gt es (d+1),gt es d]) hu)⟩⟩⟩
    ·show (decide (d+1 < es.length) && !decide (es[d]?=es[d+1]?))=_
     rw [decide_eq_false (fun c=>h (decide_eq_true c)),Bool.false_and]
  | skip m=>
    refine ⟨_,rfl,t,_,_,_,rfl,rfl,ht1,rfl,rfl,_,rfl,iteK (by decide +kernel) ?_⟩
    refine ⟨_,rfl,t,_,_,_,rfl,rfl,ht1,rfl,rfl,_,rfl,iteK (by decide +kernel) (iteF ?_)⟩
    refine ⟨_,rfl,t,_,_,_,rfl,rfl,ht1,rfl,rfl,_,rfl,iteK (by decide +kernel) (iteF ?_)⟩
    refine ⟨_,rfl,t,_,_,_,rfl,rfl,ht1,rfl,rfl,_,rfl,iteK (by decide +kernel) (iteF ?_)⟩
    refine ⟨_,rfl,t,_,_,_,rfl,rfl,ht1,rfl,rfl,_,rfl,iteK (by decide +kernel) (iteF ?_)⟩
    refine ⟨_,rfl,t,_,_,_,rfl,rfl,ht1,rfl,rfl,_,rfl,iteK (by decide +kernel) (iteF ?_)⟩
    refine ⟨_,rfl,t,_,_,_,rfl,rfl,ht1,rfl,rfl,_,rfl,iteY rfl ⟨_,rfl,_,_,rfl,rfl,_,rfl,?_⟩⟩
    have hm:=hok.1
    refine ite2 (fun h=>?_) (fun h=>iteF (no ?_ S1))
    ·have hd:(0:Int) < ((d:Nat):Int):=of_decide_eq_true h
     refine ⟨_,rfl,t,_,_,_,rfl,rfl,ht1,rfl,_,rfl,r,_,rfl,.inr hl,_,_,rfl,rfl,_,rfl,?_⟩
     rw [hdl]
     refine ite2 (fun h2=>?_) (fun h2=>iteF (no ?_ S1))
     ·have hd2:=of_decide_eq_true h2
      have e1:((m:Nat):Int) - 1=((m - 1:Nat):Int):=by omega
      have e2:((d:Nat):Int) - 1=((d - 1:Nat):Int):=by omega
      have ef:fitsB es d cp.getLast? (.skip m)=decide (V.str (gt es (d+(m - 1)))=V.str (gt es (d - 1))):=by
       show skipB es d m=_
       unfold skipB
       rw [decide_eq_true (by omega),Bool.true_and,str_dec,gt_of (show d - 1 < es.length by omega),some_dec (by omega),show d+m - 1=d+(m - 1) by omega]
      refine ⟨_,rfl,_,rfl,t,_,_,_,rfl,rfl,ht1,rfl,_,_,rfl,rfl,r,_,_,_,rfl,rfl,hl,(by rw [e1];exact drop_at (by omega)),_,rfl,_,rfl,_,_,rfl,rfl,p,_,_,_,rfl,rfl,hp1,(by rw [e2];exact at_w (by omega)),rfl,_,rfl,?_⟩
      refine ite2 (fun h3=>?_) (fun h3=>no (by rw [ef];exact Bool.eq_false_iff.mpr h3) S1)
      refine ⟨_,rfl,_,rfl,t,_,_,_,rfl,rfl,ht1,rfl,_,_,rfl,rfl,_,rfl,z2,fun b hb=>?_⟩
      have:=yes (y:=c) (ef.trans h3) S1 (by show SqT K _ c ((cp++[]).map V.str);rw [List.append_nil];exact hc1) b hb
      have e3:((d+wd (.skip m):Nat):Int)=((d:Nat):Int)+((m:Nat):Int):=by show ((d+m:Nat):Int)=_;omega
      rw [e3] at this
      exact this
     ·show skipB es d m=_
      unfold skipB
      rw [decide_eq_false (fun c=>h2 (decide_eq_true (by omega))),Bool.false_and]
    ·show skipB es d m=_
     unfold skipB
     rw [decide_eq_false (fun c=>h (decide_eq_true (by have:=c.1;omega))),Bool.false_and]
def lmade (es:List Str) (pr:List Int) (sts:List Sk):Option (List Str × Int):=(walk es sts (0,[],[])).bind fun x=>if x.1 < es.length then none else some (x.2.1,cost es pr x.2.2 sts)
theorem walk_none {es:List Str} {sts:List Sk} {i:Nat} (h:walk es (sts.take i) (0,[],[])=none):walk es sts (0,[],[])=none:=by
 have e:sts=sts.take i++sts.drop i:=(List.take_append_drop i sts).symm
 rw [e,walk_append,h]
 rfl
def spMade (K:PySem.W.Frag):Sp:=fun vs H Q _=>∃ (p q r:Addr) (es:List Str) (ts:List Addr) (sts:List Sk) (pr:List Int),vs=[.ref p,.ref q,.ref r]/\SqT K H p (es.map V.str)/\(∀ z ∈ es,Good z)/\SqT K H q (ts.map V.ref)/\StepsAt K H ts sts/\sts.length<=1000/\SqT K H r (pr.map V.int)/\pr.length=7 ∧
 match lmade es pr sts with
 | some (cp,n)=>∀ (H':Hp) (x y:Addr),Same H H'->SqT K H' y (cp.map V.str)->H' x=some (.tup [.ref y,.int n])->Q (.ref x) H'
 | none=>∀ H',Same H H'->Q .non H'
theorem scMade:FnScope ["elder","steps","prices","done","copy","total","step","came"] ["elder","steps","prices"] (defScope sMade):=⟨rfl,rfl,rfl,by decide +kernel,rfl,by decide +kernel,by decide +kernel⟩
theorem ok_made {f gDo gLP:Addr} {fd dDo dLP:FuncData} (F:Fun K "_law_made" "_law_made" sMade f fd) (DDo:Dfn K mg "_law_does" sDoes gDo dDo ["elder","done","copy","step"]) (DLP:Dfn K mg "_law_price" sLPrice gLP dLP ["elder","i","step","prices"]) (GLP:FnOk P w K mg base CX0 2 gLP dLP ["elder","i","step","prices"] (spPrice K)) (mlen:mg "len" = none):FnOk P w K mg base CX0 3 f fd ["elder","steps","prices"] (spMade K):=by
 have GDo:FnOk P w K mg base CX0 2 gDo dDo ["elder","done","copy","step"] (spDoes K):=(ok_does DDo.fn mlen).mono (by decide)
 refine F.ok scMade (fun vs H Q E h=>?_) (fun cdv A outer s H vs Q E hr h=>?_)
 ·obtain ⟨p,q,r,es,ts,sts,pr,rfl,_⟩:=h
  rfl
 ·obtain ⟨p,q0,r0,es,ts,sts,pr,rfl,hp,hg,hts,hst,hsl,hpr,h7,q⟩:=h
  refine ⟨_,pss_cons (ps_set (i:=3) scMade.nd rfl (Or.inl rfl) pe_int)
   (pss_cons (ps_set (i:=4) scMade.nd rfl (Or.inl rfl) (pe_tup pa_nil))
   (pss_cons (ps_set (i:=5) scMade.nd rfl (Or.inl rfl) pe_int)
   (pss_cons (ps_for PassesOwn.never rfl (pi_tup (pv 1)) (pg_name (i:=6) scMade.nd rfl (Or.inl rfl))
   (pss_cons (ps_set (i:=7) scMade.nd rfl (Or.inl rfl) (pe_call GDo hr (by rfl) DDo.at_ DDo.fn.kp DDo.bn .nil pass0 (pa_cons (pv 0) (pa_cons (pv 3) (pa_cons (pv 4) (pa_cons (pv 6) pa_nil))))))
   (pss_cons (ps_if (pt_cmpR op_isN (pv 7) pe_non (nomark _)) (pss_one (ps_ret pe_non)) pss_nil)
   (pss_cons (ps_set (i:=5) scMade.nd rfl (Or.inl rfl) (pe_op op_add (pv 5) (pe_call GLP hr (by rfl) DLP.at_ DLP.fn.kp DLP.bn .nil pass0 (pa_cons (pv 0) (pa_cons (pv 3) (pa_cons (pv 6) (pa_cons (pv 2) pa_nil)))))))
   (pss_cons (ps_set (i:=3) scMade.nd rfl (Or.inl rfl) (pe_ix ix_tup (pv 7) pe_int (fun _ _=>rfl)))
   (pss_one (ps_set (i:=4) scMade.nd rfl (Or.inl rfl) (pe_ix ix_tup (pv 7) pe_int (fun _ _=>rfl)))))))))
   (pss_cons (ps_if (pt_cmpR op_lt (pv 3) (pe_callB call_len_seq (by rfl) mlen PySem.boot_len (pa_cons (pv 0) pa_nil)) (nomark _)) (pss_one (ps_ret pe_non)) pss_nil)
   (pss_one (ps_ret (pe_tup (pa_cons (pv 4) (pa_cons (pv 5) pa_nil))))))))),?_⟩
  have hlen:(es.map V.str).length=es.length:=List.length_map ..
  refine ⟨Nat.zero_le _,fun c0 hc0=>?_⟩
  have S0:=same_upd (o:=.tup []) hc0
  refine ⟨_,rfl,q0,rfl,⟨_,sameT S0 hts⟩,for_tup (K:=K) (a:=q0) (xs:=ts.map V.ref) (fun i σ H2=>∃ (d:Nat) (cp:List Str) (pl:List Nat) (c:Addr) (v6 v7:Option V),σ=[some (.ref p),some (.ref q0),some (.ref r0),some (.int (d:Nat)),some (.ref c),some (.int (cost es pr pl (sts.take i))),v6,v7] ∧
   SqT K H2 c (cp.map V.str)/\Same H H2/\walk es (sts.take i) (0,[],[])=some (d,cp,pl)/\cp.length<=2 * i/\pl.length=i/\d<=es.length)
   ⟨0,[],[],c0,none,none,rfl,SqT.of upd_same,S0,rfl,Nat.le_refl _,rfl,Nat.zero_le _⟩ (fun i σ H2 _ ⟨_,_,_,_,_,_,_,_,S,_⟩=>sameT S hts) ?_ ?_⟩
  ·rintro i y σ H2 hi ⟨d,cp,pl,c,v6,v7,rfl,hc,S,hw,hcl,hpl,hde⟩
   obtain ⟨t,hti,rfl⟩:=ref_at hi
   have hil:i < ts.length:=(List.getElem?_eq_some_iff.mp hti).1
   have hil':i < sts.length:=by rw [<-hst.len];exact hil
   have hsi:sts[i]?=some sts[i]:=List.getElem?_eq_getElem hil'
   have htk:=take_snoc hsi
   generalize hgs:sts[i]=st at hsi htk
   obtain ⟨hT,hO⟩:=hst.item i t st hti hsi
   have wt:=walk_turn hsi hw
   refine ⟨_,rfl,_,rfl,_,rfl,_,rfl,p,t,c,es,cp,d,st,rfl,sameT S hp,hc,sameT S hT,hO,hde,by omega,?_⟩
   cases ha:after es d cp.getLast? st with
   | none=>
    rw [ha] at wt
    intro H3 S3
    refine ⟨_,rfl,rfl,_,rfl,iteY rfl ?_⟩
    unfold lmade at q
    rw [walk_none wt] at q
    exact q _ (S.trans S3)
   | some y=>
    obtain ⟨d',ws⟩:=y
    rw [ha] at wt
    have hwl:ws.length<=2:=after_len ha
    have hto:=after_turn ha
    have hde':=after_le ha hde
    intro H3 x y S3 hy hx
    have S03:=S.trans S3
    refine ⟨_,rfl,rfl,_,rfl,iteK (fun z=>by cases z) ?_⟩
    refine ⟨_,rfl,_,rfl,_,rfl,_,rfl,_,rfl,p,t,r0,es,d,st,pr,rfl,sameT S03 hp,hg,sameT S03 hT,hO,hto,sameT S03 hpr,h7,_,_,rfl,rfl,?_⟩
    refine ⟨_,rfl,x,_,_,_,rfl,rfl,SqT.of hx,rfl,?_⟩
    refine ⟨_,rfl,x,_,_,_,rfl,rfl,SqT.of hx,rfl,?_⟩
    refine ⟨d',cp++ws,pl++[d],y,some (.ref t),some (.ref x),?_,hy,S03,wt,by rw [List.length_append];omega,by rw [List.length_append,hpl];rfl,hde'⟩
    rw [htk,cost_snoc (by rw [List.length_take];omega)]
    rfl
  ·rintro σ H2 ⟨d,cp,pl,c,v6,v7,rfl,hc,S,hw,hcl,hpl,hde⟩
   rw [List.length_map,hst.len,List.take_length] at hw
   rw [List.length_map,hst.len,List.take_length]
   refine ⟨_,rfl,_,rfl,p,_,rfl,.inr (sameT S hp),_,_,rfl,rfl,_,rfl,?_⟩
   rw [hlen]
   unfold lmade at q
   rw [hw] at q
   refine ite2 (fun h=>?_) (fun h=>?_)
   ·have h0:=of_decide_eq_true h
    rw [Option.bind_some,if_pos (show d < es.length by omega)] at q
    exact q _ S
   ·have h0:¬ (((d:Nat):Int) < (es.length:Int)):=fun c=>h (decide_eq_true c)
    rw [Option.bind_some,if_neg (show ¬ d < es.length by omega)] at q
    refine ⟨_,rfl,_,rfl,few (by show 2<=_;omega),fun x hx=>?_⟩
    exact q _ x c (S.trans (same_upd hx)) (sameT (same_upd hx) hc) upd_same
theorem cutFrom {α:Type} (g:α->V) (xs:List α) (n:Nat):cutV (xs.map g) (some ((n:Nat):Int)) none=(xs.drop n).map g:=by
 unfold cutV
 rw [HT.sIx_none,HT.sIx_nat,List.length_map,List.map_drop]
 have e:(xs.map g).drop (min n xs.length)=(xs.map g).drop n:=by
  have:=drop_min (xs.map g) n
  rw [List.length_map] at this
  exact this
 rw [e]
 exact List.take_of_length_le (by rw [List.length_drop,List.length_map];omega)
theorem cutInit {α:Type} (g:α->V) (xs:List α):cutV (xs.map g) none (some (-1))=(xs.dropLast).map g:=by
 unfold cutV
 have e1:HT.sIx (xs.map g).length (xs.map g).length (some (-1))=((-1:Int)+((xs.map g).length:Int)).toNat:=by
  show (if (-1:Int) < 0 then ((-1:Int)+((xs.map g).length:Int)).toNat else min ((-1:Int)).toNat (xs.map g).length)=_
  rw [if_pos (by decide)]
 rw [e1,HT.sIx_none,List.drop_zero,Nat.sub_zero,List.length_map,<-List.map_take,List.dropLast_eq_take]
 congr 2
 omega
theorem made_inv {es cp:List Str} {sts:List Sk} {pl:List Nat} (h:made es sts=some (cp,pl)):∃ d,walk es sts (0,[],[])=some (d,cp,pl)/\es.length<=d:=by
 unfold made at h
 cases hw:walk es sts (0,[],[]) with
 | none=>rw [hw] at h;cases h
 | some x=>
  rw [hw,Option.bind_some] at h
  split at h
  ·cases h
  ·rename_i hn
   cases h
   exact ⟨x.1,rfl,by omega⟩
structure RR (K:PySem.W.Frag) (H:Hp) (us:List Addr) (rows:List (List Int)):Prop where
 len:us.length=rows.length
 row:∀ (i:Nat) (u:Addr) (r:List Int),us[i]?=some u->rows[i]?=some r->SqT K H u (r.map V.int)
theorem RowsAt.rr {K:PySem.W.Frag} {H:Hp} {t:Addr} {us:List Addr} {rows:List (List Int)} (h:RowsAt K H t us rows):RR K H us rows:=⟨h.len,h.row⟩
theorem RR.mono {K:PySem.W.Frag} {H H':Hp} {us:List Addr} {rows:List (List Int)} (h:RR K H us rows) (S:Same H H'):RR K H' us rows:=⟨h.len,fun i u r e1 e2=>sameT S (h.row i u r e1 e2)⟩
theorem RR.app {K:PySem.W.Frag} {H:Hp} {us vs:List Addr} {rows rs:List (List Int)} (h:RR K H us rows) (h2:RR K H vs rs):RR K H (us++vs) (rows++rs):=by
 refine ⟨by rw [List.length_append,List.length_append,h.len,h2.len],fun i u r e1 e2=>?_⟩
 by_cases hi:i < us.length
 ·rw [List.getElem?_append_left hi] at e1
  rw [List.getElem?_append_left (by rw [<-h.len];exact hi)] at e2
  exact h.row i u r e1 e2
 ·rw [List.getElem?_append_right (by omega)] at e1
  rw [List.getElem?_append_right (by rw [<-h.len];omega),<-h.len] at e2
  exact h2.row _ u r e1 e2
theorem RR.one {K:PySem.W.Frag} {H:Hp} {u:Addr} {r:List Int} (h:SqT K H u (r.map V.int)):RR K H [u] [r]:=by
 refine ⟨rfl,fun k u' r' e1 e2=>?_⟩
 cases k with
 | zero=>cases e1;cases e2;exact h
 | succ k=>simp at e1
theorem RR.take {K:PySem.W.Frag} {H:Hp} {us:List Addr} {rows:List (List Int)} (h:RR K H us rows) (n:Nat):RR K H (us.take n) (rows.take n):=by
 refine ⟨by rw [List.length_take,List.length_take,h.len],fun i u r e1 e2=>?_⟩
 have hi:i < n:=by
  have:=(List.getElem?_eq_some_iff.mp e1).1
  rw [List.length_take] at this
  omega
 rw [List.getElem?_take_of_lt hi] at e1 e2
 exact h.row i u r e1 e2
theorem RR.drop {K:PySem.W.Frag} {H:Hp} {us:List Addr} {rows:List (List Int)} (h:RR K H us rows) (n:Nat):RR K H (us.drop n) (rows.drop n):=by
 refine ⟨by rw [List.length_drop,List.length_drop,h.len],fun i u r e1 e2=>?_⟩
 rw [List.getElem?_drop] at e1 e2
 exact h.row _ u r e1 e2
theorem walk_le {es:List Str}:∀ (sts:List Sk) (x y:WS),x.1<=es.length->walk es sts x=some y->y.1<=es.length
 | [],x,y,hx,h=>by cases h;exact hx
 | st :: r,x,y,hx,h=>by
  have h':(walk1 es x st).bind (walk es r)=some y:=h
  cases ha:after es x.1 x.2.1.getLast? st with
  | none=>
   unfold walk1 at h'
   rw [ha] at h'
   cases h'
  | some u=>
   unfold walk1 at h'
   rw [ha] at h'
   exact walk_le r _ y (show u.1<=es.length from after_le ha hx) h'
theorem made_walk {es cs:List Str} {sts:List Sk} {pl:List Nat} (h:made es sts=some (cs,pl)):walk es sts (0,[],[])=some (es.length,cs,pl):=by
 obtain ⟨d,h1,h2⟩:=made_inv h
 have h3:d<=es.length:=walk_le sts _ _ (Nat.zero_le _) h1
 rw [h1,show d=es.length by omega]
theorem walk_rest {es cs:List Str} {pr:List Int} {sts:List Sk} {pl:List Nat} {R:Nat->Nat->Int} (hR:Rest (fun i st=>price es i pr st) es.length cs.length (ways es cs) R) (hwk:walk es sts (0,[],[])=some (es.length,cs,pl)) (ho:∀ st ∈ sts,okS st) :
  ∀ k,k<=sts.length->∃ (d:Nat) (cp:List Str) (plk:List Nat),walk es (sts.take k) (0,[],[])=some (d,cp,plk)/\plk.length=k/\d<=es.length/\cp.length<=cs.length/\R 0 0<=cost es pr plk (sts.take k)+R d cp.length
 | 0,_=>⟨0,[],[],rfl,rfl,Nat.zero_le _,Nat.zero_le _,by show R 0 0<=0+R 0 0;omega⟩
 | k+1,hk=>by
  obtain ⟨d,cp,plk,hw,hl,hd,hc,hle⟩:=walk_rest hR hwk ho k (by omega)
  have hi:=List.getElem?_eq_getElem (show k < sts.length by omega)
  obtain ⟨d',ws,ha,hw'⟩:=walk_at hwk hi hw
  obtain ⟨hm,h3,e1⟩:=walk_way hwk hi hw ha (ho _ (List.mem_of_getElem? hi))
  have hg:=hR.le d cp.length hd hc _ hm
  refine ⟨d',cp++ws,plk++[d],hw',by rw [List.length_append,hl];rfl,after_le ha hd,by rw [List.length_append];exact h3,?_⟩
  rw [take_snoc hi,cost_snoc (by rw [List.length_take,hl];omega),List.length_append]
  have hg:R d cp.length<=price es d pr sts[k]+R d' (cp.length+ws.length):=hg
  omega
theorem rest_cost {es cs:List Str} {pr:List Int} {sts:List Sk} {pl:List Nat} {R:Nat->Nat->Int} (hR:Rest (fun i st=>price es i pr st) es.length cs.length (ways es cs) R) (hwk:walk es sts (0,[],[])=some (es.length,cs,pl)) (ho:∀ st ∈ sts,okS st):R 0 0<=cost es pr pl sts:=by
 obtain ⟨d,cp,plk,hw,_,_,_,hle⟩:=walk_rest hR hwk ho sts.length (Nat.le_refl _)
 rw [List.take_length] at hw hle
 rw [hwk] at hw
 cases hw
 rw [hR.z] at hle
 omega
theorem table_above {es cs:List Str} {pr:List Int} {R F:Nat->Nat->Int} (hR:Rest (fun i st=>price es i pr st) es.length cs.length (ways es cs) R) (hF:∀ i j,i<=es.length->j<=cs.length->∀ x ∈ ways es cs i j,F x.2.1 x.2.2<=F i j+price es i pr x.1):∀ (k i j:Nat),(es.length - i)+(cs.length - j)<=k->i<=es.length->j<=cs.length->F es.length cs.length<=F i j+R i j
 | k,i,j,hk,hi,hj=>by
  by_cases e:i=es.length/\j=cs.length
  ·rw [e.1,e.2,hR.z];omega
  ·obtain ⟨x,hx,e1⟩:=hR.eq i j hi hj e
   have hw:=ways_fwd es cs i j hi hj x hx
   have h2:=hF i j hi hj x hx
   match k,hk with
   | 0,hk=>omega
   | k+1,hk=>
    have ih:=table_above hR hF k x.2.1 x.2.2 (by omega) hw.1 hw.2.1
    omega
theorem stands_least {es cs:List Str} {pr:List Int} {R:Nat->Nat->Int} {c:Int} {sts:List Sk} {rows:List (List Int)} (hR:Rest (fun i st=>price es i pr st) es.length cs.length (ways es cs) R) (ho:∀ st ∈ sts,okS st) (h:standB es cs pr c sts rows=true):c=R 0 0:=by
 unfold standB at h
 obtain ⟨h1,h2⟩:=Bool.and_eq_true_iff.mp h
 have low:R 0 0<=c:=by
  unfold stepsB at h1
  cases hm:made es sts with
  | none=>rw [hm] at h1;cases h1
  | some y=>
   obtain ⟨cp,pl⟩:=y
   rw [hm] at h1
   obtain ⟨g1,g2⟩:=Bool.and_eq_true_iff.mp (show (decide (cp=cs) && decide (cost es pr pl sts=c))=true from h1)
   have e1:=of_decide_eq_true g1
   subst e1
   rw [<-of_decide_eq_true g2]
   exact rest_cost hR (made_walk hm) ho
 unfold tableB at h2
 rw [Bool.and_eq_true,Bool.and_eq_true,Bool.and_eq_true] at h2
 obtain ⟨_,t1,t2,t3⟩:=h2
 have e1:=of_decide_eq_true t1
 have e2:=of_decide_eq_true t2
 have up:=table_above hR (F:=tabF rows) (fun i j hi hj x hx=>by
  have:=List.all_eq_true.mp (List.all_eq_true.mp (List.all_eq_true.mp t3 i (List.mem_range.mpr (by omega))) j (List.mem_range.mpr (by omega))) x hx
  have:¬ (tabF rows i j+price es i pr x.1 < tabF rows x.2.1 x.2.2):=fun z=>by
   rw [decide_eq_true z] at this
   exact Bool.false_ne_true this
  omega) _ 0 0 (Nat.le_refl _) (Nat.zero_le _) (Nat.zero_le _)
 omega
theorem steps_lmade {es cs:List Str} {pr:List Int} {c:Int} {sts:List Sk} (hc:cs.length<=40):stepsB es cs pr c sts=true ↔ lmade es pr sts=some (cs,c):=by
 unfold stepsB lmade made
 cases hw:walk es sts (0,[],[]) with
 | none=>exact ⟨(fun h=>nomatch h),(fun h=>nomatch h)⟩
 | some x=>
  obtain ⟨d,cp,pl⟩:=x
  rw [Option.bind_some,Option.bind_some]
  show (match (if d < es.length\/40 < cp.length then none else some (cp,pl)) with | some (cp,pl)=>decide (cp=cs) && decide (cost es pr pl sts=c) | none=>false)=true ↔ (if d < es.length then none else some (cp,cost es pr pl sts))=some (cs,c)
  by_cases h1:d < es.length
  ·rw [if_pos (.inl h1),if_pos h1]
   exact ⟨(fun h=>nomatch h),(fun h=>nomatch h)⟩
  ·rw [if_neg h1]
   by_cases h2:40 < cp.length
   ·rw [if_pos (.inr h2)]
    refine ⟨fun h=>(nomatch h),fun h=>?_⟩
    have e:=(Prod.mk.inj (Option.some.inj h)).1
    rw [e] at h2
    omega
   ·rw [if_neg (by omega)]
    show (decide (cp=cs) && decide (cost es pr pl sts=c))=true ↔ _
    rw [Bool.and_eq_true,decide_eq_true_iff,decide_eq_true_iff]
    exact ⟨fun h=>by rw [h.1,h.2],fun h=>⟨(Prod.mk.inj (Option.some.inj h)).1,(Prod.mk.inj (Option.some.inj h)).2⟩⟩
def allK (es cs:List Str) (pr:List Int) (rows:List (List Int)):Bool:=(List.range (es.length+1)).all fun i=>(List.range (cs.length+1)).all fun j=>knotB es cs pr rows i j
def spLBd (K:PySem.W.Frag):Sp:=fun vs H Q _=>∃ (p q r t:Addr) (es cs:List Str) (pr:List Int) (us:List Addr) (rows:List (List Int)),vs=[.ref p,.ref q,.ref r,.ref t]/\SqT K H p (es.map V.str)/\SqT K H q (cs.map V.str)/\SqT K H r (pr.map V.int)/\(∀ z ∈ es,Good z)/\(∀ z ∈ cs,Good z)/\es.length<=40/\cs.length<=40/\pr.length=7/\RowsAt K H t us rows/\shapeB es.length cs.length rows=true ∧
 ∀ H',Same H H'->Q (.bl (allK es cs pr rows)) H'
theorem scLBd:FnScope ["elder","copy","prices","table","i","j","step","end","price"] ["elder","copy","prices","table"] (defScope sLBd):=⟨rfl,rfl,rfl,by decide +kernel,rfl,by decide +kernel,by decide +kernel⟩
theorem ok_lbd {f gK gA:Addr} {fd dK dA:FuncData} (F:Fun K "_law_bounds" "_law_bounds" sLBd f fd) (DK:Dfn K mg "_law_knots" sKnots gK dK ["elder","copy"]) (GK:FnOk P w K mg base CX0 3 gK dK ["elder","copy"] (spKnO K)) (DA:Dfn K mg "_law_arms" sArms gA dA ["elder","copy","prices","i","j"]) (GA:FnOk P w K mg base CX0 3 gA dA ["elder","copy","prices","i","j"] (spArms K)):FnOk P w K mg base CX0 4 f fd ["elder","copy","prices","table"] (spLBd K):=by
 refine F.ok scLBd (fun vs H Q E h=>?_) (fun cdv A outer s H vs Q E hr h=>?_)
 ·obtain ⟨p,q,r,t,es,cs,pr,us,rows,rfl,_⟩:=h
  rfl
 ·obtain ⟨p,q0,r0,t,es,cs,pr,us,rows,rfl,hp,hc,hpr,hge,hgc,hel,hcl,h7,hT,hsh,q⟩:=h
  refine ⟨_,pss_cons (ps_for PassesOwn.never rfl (pi_list (pe_call GK hr (by rfl) DK.at_ DK.fn.kp DK.bn .nil pass0 (pa_cons (pv 0) (pa_cons (pv 1) pa_nil)))) (pg_tup (n:=2) rfl (pgs_cons (pg_name (i:=4) scLBd.nd rfl (Or.inl rfl)) (pgs_cons (pg_name (i:=5) scLBd.nd rfl (Or.inl rfl)) pgs_nil)))
   (pss_one (ps_for PassesOwn.never rfl (pi_list (pe_call GA hr (by rfl) DA.at_ DA.fn.kp DA.bn .nil pass0 (pa_cons (pv 0) (pa_cons (pv 1) (pa_cons (pv 2) (pa_cons (pv 4) (pa_cons (pv 5) pa_nil))))))) (pg_tup (n:=3) rfl (pgs_cons (pg_name (i:=6) scLBd.nd rfl (Or.inl rfl)) (pgs_cons (pg_name (i:=7) scLBd.nd rfl (Or.inl rfl)) (pgs_cons (pg_name (i:=8) scLBd.nd rfl (Or.inl rfl)) pgs_nil))))
   (pss_one (ps_if (pt_cmpR op_gt (pe_ix ix_tup (pe_ix ix_tup (pv 3) (pe_ix ix_tup (pv 7) pe_int (fun _ _=>rfl)) (fun _ _=>rfl)) (pe_ix ix_tup (pv 7) pe_int (fun _ _=>rfl)) (fun _ _=>rfl)) (pe_op op_add (pe_ix ix_tup (pe_ix ix_tup (pv 3) (pv 4) (fun _ _=>rfl)) (pv 5) (fun _ _=>rfl)) (pv 8)) (nomark _)) (pss_one (ps_ret pe_bl)) pss_nil)))))
   (pss_one (ps_ret pe_bl)),?_⟩
  have hle:(es.map V.str).length=es.length:=List.length_map ..
  have hlc:(cs.map V.str).length=cs.length:=List.length_map ..
  refine ⟨_,rfl,_,rfl,p,q0,_,_,rfl,hp,hc,by omega,by omega,fun H1 lk ks S1 hlk hkl hk=>?_⟩
  rw [hle,hlc] at hkl
  rw [hlc] at hk
  have lks:(ks.map V.ref).length=(es.length+1) * (cs.length+1):=by rw [List.length_map];exact hkl
  refine ⟨lk,rfl,⟨_,SqL.of hlk⟩,for_list (K:=K) (a:=lk) (xs:=ks.map V.ref) (fun k σ H2=>∃ (v4 v5 v6 v7 v8:Option V),σ=[some (.ref p),some (.ref q0),some (.ref r0),some (.ref t),v4,v5,v6,v7,v8]/\Same H1 H2/\∀ k',k' < k->knotB es cs pr rows (k' / (cs.length+1)) (k' % (cs.length+1))=true)
   ⟨none,none,none,none,none,rfl,Same.refl _,fun k' h=>absurd h (Nat.not_lt_zero _)⟩ (fun k σ H2 _ ⟨_,_,_,_,_,_,S,_⟩=>SqL.of (S _ _ hlk)) ?_ ?_⟩
  ·rintro k y σ H2 hy ⟨v4,v5,v6,v7,v8,rfl,S2,hall⟩
   obtain ⟨a,hna,rfl⟩:=ref_at hy
   have hkn:k < (es.length+1) * (cs.length+1):=by rw [<-hkl];exact (List.getElem?_eq_some_iff.mp hna).1
   obtain ⟨hi,hj⟩:=knot_in hkn
   have ha:=S2 _ _ (hk _ a hna)
   unfold knotV at ha
   have hput:∀ b:Bool,knotB es cs pr rows (k / (cs.length+1)) (k % (cs.length+1))=b->knotB es cs pr rows (k / (cs.length+1)) (k % (cs.length+1))=b:=fun _ z=>z
   generalize hie:k / (cs.length+1)=i at ha hi hput
   generalize hje:k % (cs.length+1)=j at ha hj hput
   have S02:=S1.trans S2
   refine ⟨a,_,rfl,SqT.of ha,rfl,_,_,rfl,_,_,rfl,rfl,?_⟩
   refine ⟨_,rfl,_,rfl,_,rfl,_,rfl,_,rfl,p,q0,r0,es,cs,pr,i,j,rfl,sameT S02 hp,sameT S02 hc,sameT S02 hpr,hge,hgc,hi,hj,by omega,h7,fun H4 la as S4 hla hA=>?_⟩
   have hfw:=ways_fwd es cs i j hi hj
   have eK:knotB es cs pr rows i j=(ways es cs i j).all fun x=>!decide (tabF rows i j+price es i pr x.1 < tabF rows x.2.1 x.2.2):=rfl
   generalize hws:ways es cs i j=ws at hA hfw eK
   have S04:=S02.trans S4
   have hT4:=hT.mono S04
   refine ⟨la,rfl,⟨_,SqL.of hla⟩,for_list (K:=K) (a:=la) (xs:=as.map V.ref) (fun kk σ H5=>∃ (v6 v7 v8:Option V),σ=[some (.ref p),some (.ref q0),some (.ref r0),some (.ref t),some (.int ((i:Nat):Int)),some (.int ((j:Nat):Int)),v6,v7,v8]/\H5=H4/\(ws.take kk).all (fun x=>!decide (tabF rows i j+price es i pr x.1 < tabF rows x.2.1 x.2.2))=true)
    ⟨v6,v7,v8,rfl,rfl,rfl⟩ (fun kk σ H5 _ ⟨_,_,_,_,e,_⟩=>by rw [e];exact SqL.of hla) ?_ ?_⟩
   ·rintro kk y σ H5 hk5 ⟨v6,v7,v8,rfl,rfl,hal⟩
    obtain ⟨b,hbk,rfl⟩:=ref_at hk5
    have hkw:kk < ws.length:=by rw [<-hA.len];exact (List.getElem?_eq_some_iff.mp hbk).1
    obtain ⟨tt,e,hb,he,_,_⟩:=hA.item kk b _ hbk (List.getElem?_eq_getElem hkw)
    have hxm:=List.getElem_mem hkw
    have hw:=hfw _ hxm
    have htk:ws.take (kk+1)=ws.take kk++[ws[kk]]:=List.take_succ_eq_append_getElem hkw
    generalize ws[kk]=x at hb he hw hxm htk
    obtain ⟨u1,r1,au1,hu1,ar1⟩:=rows_line hT4 hsh hw.1
    obtain ⟨u2,r2,au2,hu2,ar2⟩:=rows_line hT4 hsh hi
    refine ⟨_,_,rfl,SqT.of hb,rfl,_,_,rfl,_,_,rfl,_,_,rfl,rfl,?_⟩
    refine ⟨_,rfl,_,rfl,e,_,_,_,rfl,rfl,SqT.of he,rfl,t,_,_,_,rfl,rfl,hT4.top,au1,_,rfl,e,_,_,_,rfl,rfl,SqT.of he,rfl,u1,_,_,_,rfl,rfl,hu1,ar1 _ hw.2.1,_,rfl,_,rfl,t,_,_,_,rfl,rfl,hT4.top,au2,_,rfl,u2,_,_,_,rfl,rfl,hu2,ar2 _ hj,_,rfl,_,_,rfl,rfl,_,_,rfl,rfl,_,rfl,?_⟩
    refine ite2 (fun h=>?_) (fun h=>?_)
    ·have e1:knotB es cs pr rows i j=false:=by
      rw [eK]
      exact List.all_eq_false.mpr ⟨x,hxm,by rw [h];exact Bool.false_ne_true⟩
     have e2:allK es cs pr rows=false:=List.all_eq_false.mpr ⟨i,List.mem_range.mpr (by omega),by
      rw [List.all_eq_false.mpr ⟨j,List.mem_range.mpr (by omega),by rw [e1];exact Bool.false_ne_true⟩]
      exact Bool.false_ne_true⟩
     rw [e2] at q
     exact q _ S04
    ·refine ⟨_,_,_,rfl,rfl,?_⟩
     rw [htk,List.all_append,hal,Bool.true_and,List.all_cons,List.all_nil,Bool.and_true,Bool.eq_false_iff.mpr h]
     rfl
   ·rintro σ H5 ⟨v6,v7,v8,rfl,rfl,hal⟩
    rw [List.length_map,hA.len,List.take_length,<-eK] at hal
    refine ⟨_,_,_,_,_,rfl,S2.trans S4,fun k' hk'=>?_⟩
    by_cases ek:k'=k
    ·rw [ek,hie,hje];exact hal
    ·exact hall k' (by omega)
  ·rintro σ H2 ⟨v4,v5,v6,v7,v8,rfl,S2,hall⟩
   rw [lks] at hall
   have e2:allK es cs pr rows=true:=List.all_eq_true.mpr fun i hi=>List.all_eq_true.mpr fun j hj=>by
    have hi:=List.mem_range.mp hi
    have hj:=List.mem_range.mp hj
    have:=hall (i * (cs.length+1)+j) (code_lt (by omega) (by omega))
    rw [(code_div (i:=i) (show j<=cs.length by omega)).1,(code_div (i:=i) (show j<=cs.length by omega)).2] at this
    exact this
   rw [e2] at q
   exact q _ (S1.trans S2)
theorem op_neN {X:Cx} (hu:X.A.units+64 < cLine):OpR X (compareOp .NotEq) (fun x y H Q=>(∃ n b,n<=20/\EqS X.K H n x y b/\Q (.bl (!b)) H)\/(∃ p xs,x=.non/\y=.ref p/\SqT X.K H p xs/\Q (.bl true) H)):=by
 intro pins s σ H x y v u Q I rx ry h
 rcases h with h | ⟨p,xs,rfl,rfl,hp,q⟩
 ·exact op_neS hu pins s σ H x y v u Q I rx ry h
 ·cases rx
  cases ry
  obtain ⟨its,r,pt,_⟩:=I.tuple hp
  exact SeqAt.RcNeAt.none_tuple pt (by omega) _ _ _ _ ⟨.bl true,H,I,rfl,q⟩
def spLStd (K:PySem.W.Frag):Sp:=fun vs H Q _=>∃ (p q r u t:Addr) (es cs:List Str) (pr:List Int) (c:Int) (ts:List Addr) (sts:List Sk) (us:List Addr) (rows:List (List Int)),vs=[.ref p,.ref q,.ref r,.int c,.ref u,.ref t]/\SqT K H p (es.map V.str)/\SqT K H q (cs.map V.str)/\SqT K H r (pr.map V.int)/\(∀ z ∈ es,Good z)/\(∀ z ∈ cs,Good z)/\es.length<=40/\cs.length<=40/\pr.length=7/\SqT K H u (ts.map V.ref)/\StepsAt K H ts sts/\sts.length<=1000/\RowsAt K H t us rows/\rows.length<=1000 ∧
 ∀ H',Same H H'->Q (.bl (standB es cs pr c sts rows)) H'
theorem scLStd:FnScope ["elder","copy","prices","price","steps","table"] ["elder","copy","prices","price","steps","table"] (defScope sLSt):=⟨rfl,rfl,rfl,by decide +kernel,rfl,by decide +kernel,by decide +kernel⟩
theorem eq_pair {K:PySem.W.Frag} {H:Hp} {a b y q:Addr} {cp cs:List Str} {n c:Int} (ha:SqT K H a [.ref y,.int n]) (hb:SqT K H b [.ref q,.int c]) (hy:SqT K H y (cp.map V.str)) (hq:SqT K H q (cs.map V.str)):EqS K H 1 (.ref a) (.ref b) (decide (cp=cs) && decide (n=c)):=by
 refine ⟨a,b,_,_,fun i=>if i=0 then decide (cp=cs) else eqV (.int n) (.int c),rfl,rfl,.inr ⟨ha,hb⟩,fun i x z hx hz=>?_,?_⟩
 ·match i,hx,hz with
  | 0,hx,hz=>cases hx;cases hz;exact (EqS.strs (.inr ⟨hy,hq⟩)).q
  | 1,hx,hz=>cases hx;cases hz;exact EqQ.flat rfl rfl 1
  | k+2,hx,hz=>simp at hx
 ·show _=(true && ((if (0:Nat)=0 then decide (cp=cs) else _) && ((if (1:Nat)=0 then _ else eqV (.int n) (.int c)) && true)))
  rw [if_pos rfl,if_neg (by decide),Bool.true_and,Bool.and_true]
  rfl
theorem shape_split (m n:Nat) (rows:List (List Int)):shapeB m n rows=(decide (rows.length=m+1) && decide (rows.filter (fun r=>!decide (r.length=n+1))=[])):=by
 unfold shapeB
 congr 1
 rw [Bool.eq_iff_iff,decide_eq_true_iff,List.filter_eq_nil_iff,List.all_eq_true]
 constructor
 ·intro h r hr
  rw [h r hr]
  exact Bool.false_ne_true
 ·intro h r hr
  have:=h r hr
  cases hd:decide (r.length=n+1) with
  | true=>rfl
  | false=>rw [hd] at this;exact absurd rfl this
theorem iteNK {c A B:Prop} [Decidable c] (h:¬ c) (ha:A):if (!decide c)=true then A else B:=by rw [decide_eq_false h];exact iteT ha
theorem eq_nilL {K:PySem.W.Frag} {H:Hp} {u t:Addr} {xs:List V} (hu:SqL K H u xs) (ht:SqL K H t []):EqS K H 0 (.ref u) (.ref t) (decide (xs=[])):=by
 refine ⟨u,t,_,_,fun _=>true,rfl,rfl,.inl ⟨hu,ht⟩,fun i x y _ hy=>by simp at hy,?_⟩
 rw [all_true,Bool.and_true]
 exact decide_eq_decide.mpr ⟨fun e=>by rw [e],fun e=>List.length_eq_zero_iff.mp e⟩
theorem filt_nil {us:List Addr} {rows:List (List Int)} (n:Nat) (hl:us.length=rows.length):decide (((us.zip rows).filter fun x=>!decide (x.2.length=n+1)).map (fun x=>V.ref x.1)=[])=decide (rows.filter (fun r=>!decide (r.length=n+1))=[]):=by
 have e1:rows.filter (fun r=>!decide (r.length=n+1))=((us.zip rows).filter fun x=>!decide (x.2.length=n+1)).map Prod.snd:=by
  conv=>lhs;rw [show rows=(us.zip rows).map Prod.snd from (List.map_snd_zip (by rw [hl];exact Nat.le_refl _)).symm]
  rw [List.filter_map]
  rfl
 rw [e1]
 exact decide_eq_decide.mpr (by rw [List.map_eq_nil_iff,List.map_eq_nil_iff])
theorem ok_lstd {f gMd gBd:Addr} {fd dMd dBd:FuncData} (F:Fun K "_law_stands" "_law_stands" sLSt f fd) (DMd:Dfn K mg "_law_made" sMade gMd dMd ["elder","steps","prices"]) (GMd:FnOk P w K mg base CX0 4 gMd dMd ["elder","steps","prices"] (spMade K)) (DBd:Dfn K mg "_law_bounds" sLBd gBd dBd ["elder","copy","prices","table"]) (GBd:FnOk P w K mg base CX0 4 gBd dBd ["elder","copy","prices","table"] (spLBd K)) (mlen:mg "len" = none):FnOk P w K mg base CX0 5 f fd ["elder","copy","prices","price","steps","table"] (spLStd K):=by
 refine F.ok scLStd (fun vs H Q E h=>?_) (fun cdv A outer s H vs Q E hr h=>?_)
 ·obtain ⟨p,q,r,u,t,es,cs,pr,c,ts,sts,us,rows,rfl,_⟩:=h
  rfl
 ·obtain ⟨p,q0,r0,u,t,es,cs,pr,c,ts,sts,us,rows,rfl,hp,hc,hpr,hge,hgc,hel,hcl,h7,hu,hst,hsl,hT,hrl,q⟩:=h
  refine ⟨_,pss_cons (ps_mid (ps_if (pt_cmpR (op_neN hr.units) (pe_call GMd hr (by rfl) DMd.at_ DMd.fn.kp DMd.bn .nil pass0 (pa_cons (pv 0) (pa_cons (pv 4) (pa_cons (pv 2) pa_nil)))) (pe_tup (pa_cons (pv 1) (pa_cons (pv 3) pa_nil))) (nomark _)) (pss_one (ps_ret pe_bl)) pss_nil))
   (pss_cons (ps_if (PW.pt (pw_or (pt_cmpR op_ne (pe_callB call_len_seq (by rfl) mlen PySem.boot_len (pa_cons (pv 5) pa_nil)) (pe_op op_add (pe_callB call_len_seq (by rfl) mlen PySem.boot_len (pa_cons (pv 0) pa_nil)) pe_int) (nomark _)) (pw_or1 (pt_cmpR (op_neS hr.units) (pe_comp (Nc:=["row","copy"]) (mp:=[none,some 1]) rfl (CompOk.of (by rfl)) (pi_tup (pv 5)) (fun cl C s H fp=>⟨pg_name (i:=0) nd_roc rfl (Or.inl rfl),pts_one (pt_cmpR op_ne (pe_callB (call_len_seqK (K:=K) rfl) (by rfl) mlen PySem.boot_len (pa_cons (pv 0) pa_nil)) (pe_op op_add (pe_callB (call_len_seqK (K:=K) rfl) (by rfl) mlen PySem.boot_len (pa_cons (pv 1) pa_nil)) pe_int) (nomark _)),(pv 0)⟩)) (pe_lst pa_nil) (nomark _))))) (pss_one (ps_ret pe_bl)) pss_nil)
   (pss_cons (ps_if (PW.pt (pw_or (pt_cmpR op_ne (pe_ix ix_tup (pe_ix ix_tup (pv 5) pe_int (fun _ _=>rfl)) pe_int (fun _ _=>rfl)) pe_int (nomark _)) (pw_or1 (pt_cmpR op_ne (pe_ix ix_tup (pe_ix ix_tup (pv 5) (pe_un un_neg pe_int) (fun _ _=>rfl)) (pe_un un_neg pe_int) (fun _ _=>rfl)) (pv 3) (nomark _))))) (pss_one (ps_ret pe_bl)) pss_nil)
   (pss_one (ps_ret (pe_call GBd hr (by rfl) DBd.at_ DBd.fn.kp DBd.bn .nil pass0 (pa_cons (pv 0) (pa_cons (pv 1) (pa_cons (pv 2) (pa_cons (pv 5) pa_nil))))))))),?_⟩
  have hle:(es.map V.str).length=es.length:=List.length_map ..
  have es1:=steps_lmade (es:=es) (cs:=cs) (pr:=pr) (c:=c) (sts:=sts) hcl
  refine ⟨fun σ' H'=>σ'=[some (.ref p),some (.ref q0),some (.ref r0),some (.int c),some (.ref u),some (.ref t)]/\Same H H'/\stepsB es cs pr c sts=true,?_,?_⟩
  ·have fall:stepsB es cs pr c sts=false->∀ H',Same H H'->Q (.bl false) H':=fun h H' S=>by
    have:=q H' S
    unfold standB at this
    rw [h,Bool.false_and] at this
    exact this
   refine ⟨_,rfl,_,rfl,_,rfl,p,u,r0,es,ts,sts,pr,rfl,hp,hge,hu,hst,hsl,hpr,h7,?_⟩
   cases hm:lmade es pr sts with
   | none=>
    intro H1 S1
    refine ⟨_,rfl,_,rfl,few (by show 2<=_;omega),fun a ha=>?_⟩
    refine .inr ⟨a,_,rfl,rfl,SqT.of upd_same,_,rfl,iteT (fall ?_ _ (S1.trans (same_upd ha)))⟩
    exact Bool.eq_false_iff.mpr fun h=>by rw [es1,hm] at h;cases h
   | some y=>
    obtain ⟨cp,n⟩:=y
    intro H1 x y S1 hy hx
    refine ⟨_,rfl,_,rfl,few (by show 2<=_;omega),fun a ha=>?_⟩
    have Sa:=same_upd (o:=.tup [V.ref q0,.int c]) ha
    refine .inl ⟨1,_,by decide,eq_pair (SqT.of (Sa _ _ hx)) (SqT.of upd_same) (sameT Sa hy) (sameT (S1.trans Sa) hc),_,rfl,?_⟩
    by_cases e:cp=cs/\n=c
    ·rw [decide_eq_true e.1,decide_eq_true e.2]
     exact iteF ⟨rfl,S1.trans Sa,es1.mpr (by rw [hm,e.1,e.2])⟩
    ·have e2:(decide (cp=cs) && decide (n=c))=false:=Bool.eq_false_iff.mpr fun h=>e (by rw [Bool.and_eq_true,decide_eq_true_iff,decide_eq_true_iff] at h;exact h)
     rw [e2]
     exact iteT (fall (Bool.eq_false_iff.mpr fun h=>e (by have:=es1.mp h;rw [hm] at this;cases this;exact ⟨rfl,rfl⟩)) _ (S1.trans Sa))
  rintro σ' H1 ⟨rfl,S1,hst1⟩
  unfold standB at q
  rw [hst1,Bool.true_and] at q
  unfold tableB at q
  have hT1:=hT.mono S1
  have hul:(us.map V.ref).length=rows.length:=by rw [List.length_map,hT.len]
  refine ⟨_,rfl,t,_,rfl,.inr hT1.top,_,rfl,p,_,rfl,.inr (sameT S1 hp),_,_,rfl,rfl,rfl,_,rfl,?_⟩
  rw [hul,hle]
  by_cases h1:rows.length=es.length+1
  ·refine iteNS (by rw [h1];rfl) ?_
   have hzl:(us.zip rows).length=rows.length:=by rw [List.length_zip,hT.len];exact Nat.min_self _
   have etop:(us.zip rows).map (fun x=>V.ref x.1)=us.map V.ref:=by
    rw [show (fun x:Addr × List Int=>V.ref x.1)=V.ref ∘ Prod.fst from rfl,<-List.map_map,List.map_fst_zip (by rw [hT.len];exact Nat.le_refl _)]
   refine ⟨_,rfl,t,rfl,⟨_,hT1.top⟩,comp_pure (as:=us.zip rows) (v:=fun x=>V.ref x.1) (fun x=>!decide (x.2.length=cs.length+1)) (fun x=>V.ref x.1) (src_tup (by rw [etop];exact hT1.top)) (by rw [hzl];exact few (by omega)) (fun x hx k hk=>?_) (fun x hx _ kc hkc=>⟨_,rfl,hkc⟩) fun D hD=>?_⟩
   ·obtain ⟨i,hi⟩:=List.mem_iff_getElem?.mp hx
    obtain ⟨z1,z2⟩:=List.getElem?_zip_eq_some.mp hi
    refine ⟨_,rfl,x.1,_,rfl,.inr (hT1.row i _ _ z1 z2),_,rfl,q0,_,rfl,.inr (sameT S1 hc),_,_,rfl,rfl,rfl,_,rfl,?_⟩
    have e:decide (V.int (((x.2.map V.int).length:Nat):Int)=V.int ((((cs.map V.str).length:Nat):Int)+1))=decide (x.2.length=cs.length+1):=by
     rw [int_dec,List.length_map,List.length_map]
     exact decide_eq_decide.mpr (by omega)
    rw [e]
    exact hk
   have SD:=same_upd (o:=.lst (((us.zip rows).filter fun x=>!decide (x.2.length=cs.length+1)).map (fun x=>V.ref x.1))) hD
   refine ⟨Nat.zero_le _,fun l0 hl0=>?_⟩
   have Sl:=same_upd (o:=.lst []) hl0
   refine ⟨0,_,by decide,eq_nilL (SqL.of (Sl _ _ upd_same)) (SqL.of upd_same),_,rfl,?_⟩
   rw [filt_nil cs.length hT.len]
   have S03:=(S1.trans SD).trans Sl
   generalize upd (upd H1 D (.lst (((us.zip rows).filter fun x=>!decide (x.2.length=cs.length+1)).map (fun x=>V.ref x.1)))) l0 (.lst [])=H3 at S03
   by_cases h2:rows.filter (fun r=>!decide (r.length=cs.length+1))=[]
   ·refine iteNS h2 ?_
    have hsh:shapeB es.length cs.length rows=true:=by rw [shape_split,decide_eq_true h1,decide_eq_true h2];rfl
    rw [hsh,Bool.true_and] at q
    have hT3:=hT.mono S03
    obtain ⟨u1,r1,au1,hu1,ar1⟩:=rows_line hT3 hsh (Nat.zero_le _)
    obtain ⟨u2,r2,au2,hu2,ar2⟩:=rows_last hT3 hsh
    refine ⟨_,rfl,t,_,_,_,rfl,rfl,hT3.top,au1,u1,_,_,_,rfl,rfl,hu1,ar1 0 (Nat.zero_le _),rfl,_,rfl,?_⟩
    by_cases h0:tabF rows 0 0=0
    ·rw [decide_eq_true h0,Bool.true_and] at q
     refine iteNS (by rw [h0]) ?_
     refine ⟨_,rfl,_,rfl,t,_,_,_,rfl,rfl,hT3.top,au2,_,rfl,u2,_,_,_,rfl,rfl,hu2,ar2,_,rfl,rfl,_,rfl,?_⟩
     by_cases h3:tabF rows es.length cs.length=c
     ·rw [decide_eq_true h3,Bool.true_and] at q
      refine iteNS (by rw [h3]) ?_
      exact ⟨_,rfl,_,rfl,_,rfl,_,rfl,p,q0,r0,t,es,cs,pr,us,rows,rfl,sameT S03 hp,sameT S03 hc,sameT S03 hpr,hge,hgc,hel,hcl,h7,hT3,hsh,fun H4 S4=>q _ (S03.trans S4)⟩
     ·rw [decide_eq_false h3,Bool.false_and] at q
      exact iteNK (fun z=>h3 (V.int.inj z)) (q _ S03)
    ·rw [decide_eq_false h0,Bool.false_and] at q
     exact iteNK (fun z=>h0 (V.int.inj z)) (iteT (q _ S03))
   ·have hsh:shapeB es.length cs.length rows=false:=by rw [shape_split,decide_eq_false h2,Bool.and_false]
    rw [hsh,Bool.false_and] at q
    exact iteNK h2 (q _ S03)
  ·have hsh:shapeB es.length cs.length rows=false:=by unfold shapeB;rw [decide_eq_false h1,Bool.false_and]
   rw [hsh,Bool.false_and] at q
   exact iteNK (fun z=>h1 (by injection z with z;omega)) (iteT (q _ S1))
def spForm (K:PySem.W.Frag):Sp:=fun vs H Q _=>∃ a b:Int,vs=[.int a,.int b]/\∀ (H':Hp) (t:Addr) (st:Sk),Same H H'->SqT K H' t (stepV st)->okS st->Q (.ref t) H'
theorem scForm:FnScope ["seed","left","word","forms"] ["seed","left"] (defScope sForm):=⟨rfl,rfl,rfl,by decide +kernel,rfl,by decide +kernel,by decide +kernel⟩
theorem nat_of_mod {a m:Int} (h:0 < m):∃ k:Nat,a % m=((k:Nat):Int)/\((k:Nat):Int) < m:=⟨(a % m).toNat,by have:=Int.emod_nonneg a (show m ≠ 0 by omega);omega,by have:=Int.emod_nonneg a (show m ≠ 0 by omega);have:=Int.emod_lt_of_pos a h;omega⟩
theorem ok_form {f gW:Addr} {fd dW:FuncData} (F:Fun K "_law_form" "_law_form" sForm f fd) (DW:Dfn K mg "_law_word" sWord gW dW ["seed","code"]) (GW:FnOk P w K mg base CX0 2 gW dW ["seed","code"] spWord):FnOk P w K mg base CX0 3 f fd ["seed","left"] (spForm K):=by
 refine F.ok scForm (fun vs H Q E h=>?_) (fun cdv A outer s H vs Q E hr h=>?_)
 ·obtain ⟨a,b,rfl,_⟩:=h
  rfl
 ·obtain ⟨a,b,rfl,q⟩:=h
  refine ⟨_,pss_cons (ps_set (i:=2) scForm.nd rfl (Or.inl rfl) (pe_call GW hr (by rfl) DW.at_ DW.fn.kp DW.bn .nil pass0 (pa_cons (pv 0) (pa_cons (pe_op op_mod (pe_op op_fdiv (pv 1) pe_int) pe_int) pa_nil))))
   (pss_cons (ps_set (i:=3) scForm.nd rfl (Or.inl rfl) (pe_lst (pa_cons (pe_tup (pa_cons pe_str pa_nil)) (pa_cons (pe_tup (pa_cons pe_str (pa_cons (pv 2) pa_nil))) (pa_cons (pe_tup (pa_cons pe_str pa_nil)) (pa_cons (pe_tup (pa_cons pe_str (pa_cons (pv 2) pa_nil))) (pa_cons (pe_tup (pa_cons pe_str pa_nil)) (pa_cons (pe_tup (pa_cons pe_str pa_nil)) (pa_cons (pe_tup (pa_cons pe_str (pa_cons (pe_op op_add pe_int (pe_op op_mod (pe_op op_fdiv (pv 1) pe_int) pe_int)) pa_nil))) pa_nil)))))))))
   (pss_one (ps_ret (pe_ix ix_list (pv 3) (pe_op op_mod (pv 1) pe_int) (fun _ _=>rfl))))),?_⟩
  refine ⟨_,rfl,_,rfl,_,_,rfl,rfl,⟨by decide,by decide⟩,_,_,rfl,rfl,(by show (0:Int) < 10;decide),_,_,rfl,fun z hz=>?_⟩
  have z1:(1:Nat)<=sizeLine:=few (by omega)
  have z2:(2:Nat)<=sizeLine:=few (by omega)
  have z7:(7:Nat)<=sizeLine:=few (by omega)
  refine ⟨z1,fun a1 h1=>?_⟩
  have T1:=same_upd (o:=.tup (stepV .keep)) h1
  refine ⟨_,rfl,z2,fun a2 h2=>?_⟩
  have T2:=same_upd (o:=.tup (stepV (.turn z))) h2
  refine ⟨z1,fun a3 h3=>?_⟩
  have T3:=same_upd (o:=.tup (stepV .lose)) h3
  refine ⟨_,rfl,z2,fun a4 h4=>?_⟩
  have T4:=same_upd (o:=.tup (stepV (.add z))) h4
  refine ⟨z1,fun a5 h5=>?_⟩
  have T5:=same_upd (o:=.tup (stepV .twice)) h5
  refine ⟨z1,fun a6 h6=>?_⟩
  have T6:=same_upd (o:=.tup (stepV .swap)) h6
  refine ⟨_,rfl,_,_,rfl,rfl,⟨by decide,by decide⟩,_,_,rfl,rfl,(by show (0:Int) < 4;decide),_,_,rfl,rfl,z2,fun a7 h7=>?_⟩
  obtain ⟨m,em,hm⟩:=nat_of_mod (a:=b / 7) (m:=4) (by decide)
  have ek:(1:Int)+b / 7 % 4=((m+1:Nat):Int):=by rw [em];omega
  have T7:=same_upd (o:=.tup [V.str (Str.ofString "skip"),.int (1+b / 7 % 4)]) h7
  refine ⟨z7,fun l hl=>?_⟩
  have T8:=same_upd (o:=.lst [V.ref a1,.ref a2,.ref a3,.ref a4,.ref a5,.ref a6,.ref a7]) hl
  have S78:=T7.trans T8
  have S68:=T6.trans S78
  have S58:=T5.trans S68
  have S48:=T4.trans S58
  have S38:=T3.trans S48
  have S28:=T2.trans S38
  have S18:=T1.trans S28
  have k1:=S28 _ _ (upd_same (H:=H) (a:=a1) (o:=.tup (stepV .keep)))
  have k2:=S38 _ _ (upd_same (a:=a2) (o:=.tup (stepV (.turn z))))
  have k3:=S48 _ _ (upd_same (a:=a3) (o:=.tup (stepV .lose)))
  have k4:=S58 _ _ (upd_same (a:=a4) (o:=.tup (stepV (.add z))))
  have k5:=S68 _ _ (upd_same (a:=a5) (o:=.tup (stepV .twice)))
  have k6:=S78 _ _ (upd_same (a:=a6) (o:=.tup (stepV .swap)))
  have k7:=T8 _ _ (upd_same (a:=a7) (o:=.tup [V.str (Str.ofString "skip"),.int (1+b / 7 % 4)]))
  have e7:[V.str (Str.ofString "skip"),V.int (1+b / 7 % 4)]=stepV (.skip (m+1)):=by rw [ek];rfl
  have kl:=upd_same (H:=upd (upd (upd (upd (upd (upd (upd H a1 (.tup (stepV .keep))) a2 (.tup (stepV (.turn z)))) a3 (.tup (stepV .lose))) a4 (.tup (stepV (.add z)))) a5 (.tup (stepV .twice))) a6 (.tup (stepV .swap))) a7 (.tup [V.str (Str.ofString "skip"),.int (1+b / 7 % 4)])) (a:=l) (o:=.lst [V.ref a1,.ref a2,.ref a3,.ref a4,.ref a5,.ref a6,.ref a7])
  obtain ⟨k,ekk,hk⟩:=nat_of_mod (a:=b) (m:=7) (by decide)
  refine ⟨_,rfl,_,rfl,_,_,rfl,rfl,(by show (0:Int) < 7;decide),?_⟩
  obtain ⟨y,st,ey,hy,ho⟩:∃ (y:Addr) (st:Sk),[V.ref a1,.ref a2,.ref a3,.ref a4,.ref a5,.ref a6,.ref a7][k]?=some (.ref y)/\SqT K (upd (upd (upd (upd (upd (upd (upd (upd H a1 (.tup (stepV .keep))) a2 (.tup (stepV (.turn z)))) a3 (.tup (stepV .lose))) a4 (.tup (stepV (.add z)))) a5 (.tup (stepV .twice))) a6 (.tup (stepV .swap))) a7 (.tup [V.str (Str.ofString "skip"),.int (1+b / 7 % 4)])) l (.lst [V.ref a1,.ref a2,.ref a3,.ref a4,.ref a5,.ref a6,.ref a7])) y (stepV st)/\okS st:=by
   match k,hk with
   | 0,_=>exact ⟨a1,.keep,rfl,SqT.of k1,trivial⟩
   | 1,_=>exact ⟨a2,.turn z,rfl,SqT.of k2,hz⟩
   | 2,_=>exact ⟨a3,.lose,rfl,SqT.of k3,trivial⟩
   | 3,_=>exact ⟨a4,.add z,rfl,SqT.of k4,hz⟩
   | 4,_=>exact ⟨a5,.twice,rfl,SqT.of k5,trivial⟩
   | 5,_=>exact ⟨a6,.swap,rfl,SqT.of k6,trivial⟩
   | 6,_=>exact ⟨a7,.skip (m+1),rfl,(by rw [<-e7];exact SqT.of k7),⟨by omega,by omega⟩⟩
   | n+7,h=>omega
  exact ⟨l,_,_,_,rfl,rfl,SqL.of kl,(by rw [ekk];exact atI_nat ey),q _ y st S18 hy ho⟩
theorem stAt_app {K:PySem.W.Frag} {H:Hp} {ts us:List Addr} {xs ys:List Sk} (h:StepsAt K H ts xs) (h2:StepsAt K H us ys):StepsAt K H (ts++us) (xs++ys):=by
 refine ⟨by rw [List.length_append,List.length_append,h.len,h2.len],fun i t st e1 e2=>?_⟩
 by_cases hi:i < ts.length
 ·rw [List.getElem?_append_left hi] at e1
  rw [List.getElem?_append_left (by rw [<-h.len];exact hi)] at e2
  exact h.item i t st e1 e2
 ·rw [List.getElem?_append_right (by omega)] at e1
  rw [List.getElem?_append_right (by rw [<-h.len];omega),<-h.len] at e2
  exact h2.item _ t st e1 e2
theorem stAt_take {K:PySem.W.Frag} {H:Hp} {ts:List Addr} {xs:List Sk} (h:StepsAt K H ts xs) (n:Nat):StepsAt K H (ts.take n) (xs.take n):=by
 refine ⟨by rw [List.length_take,List.length_take,h.len],fun i t st e1 e2=>?_⟩
 have hi:i < n:=by
  have:=(List.getElem?_eq_some_iff.mp e1).1
  rw [List.length_take] at this
  omega
 rw [List.getElem?_take_of_lt hi] at e1 e2
 exact h.item i t st e1 e2
theorem stAt_drop {K:PySem.W.Frag} {H:Hp} {ts:List Addr} {xs:List Sk} (h:StepsAt K H ts xs) (n:Nat):StepsAt K H (ts.drop n) (xs.drop n):=by
 refine ⟨by rw [List.length_drop,List.length_drop,h.len],fun i t st e1 e2=>?_⟩
 rw [List.getElem?_drop] at e1 e2
 exact h.item _ t st e1 e2
theorem stAt_one {K:PySem.W.Frag} {H:Hp} {t:Addr} {st:Sk} (ht:SqT K H t (stepV st)) (ho:okS st):StepsAt K H [t] [st]:=StepsAt.nil.snoc ht ho
theorem cutMid {α:Type} (g:α->V) (xs:List α) (i:Nat):cutV (xs.map g) (some ((i:Nat):Int)) (some (((i:Nat):Int)+1))=((xs.drop i).take 1).map g:=by
 have e:((i:Nat):Int)+1=((i+1:Nat):Int):=by omega
 unfold cutV
 rw [e,HT.sIx_nat,HT.sIx_nat,List.length_map,<-List.map_drop,<-List.map_take]
 congr 1
 by_cases h:i+1<=xs.length
 ·rw [Nat.min_eq_left (show i<=xs.length by omega),Nat.min_eq_left h,Nat.add_sub_cancel_left]
 ·rw [Nat.min_eq_right (show xs.length<=i+1 by omega),List.take_of_length_le (by rw [List.length_drop];omega),List.take_of_length_le (by rw [List.length_drop];omega)]
  by_cases h2:i<=xs.length
  ·rw [Nat.min_eq_left h2]
  ·rw [Nat.min_eq_right (by omega),List.drop_of_length_le (Nat.le_refl _),List.drop_of_length_le (by omega)]
def spSSp (K:PySem.W.Frag):Sp:=fun vs H Q _=>∃ (u:Addr) (wy a b:Int) (ts:List Addr) (sts:List Sk),vs=[.ref u,.int wy,.int a,.int b]/\SqT K H u (ts.map V.ref)/\StepsAt K H ts sts/\sts.length<=200 ∧
 ∀ (H':Hp) (u':Addr) (ts':List Addr) (sts':List Sk),Same H H'->SqT K H' u' (ts'.map V.ref)->StepsAt K H' ts' sts'->sts'.length<=1000->Q (.ref u') H'
theorem scSSp:FnScope ["steps","way","seed","left","at","form"] ["steps","way","seed","left"] (defScope sSSp):=⟨rfl,rfl,rfl,by decide +kernel,rfl,by decide +kernel,by decide +kernel⟩
theorem ok_ssp {f gFm:Addr} {fd dFm:FuncData} (F:Fun K "_law_steps_spoilt" "_law_steps_spoilt" sSSp f fd) (DFm:Dfn K mg "_law_form" sForm gFm dFm ["seed","left"]) (GFm:FnOk P w K mg base CX0 3 gFm dFm ["seed","left"] (spForm K)) (mlen:mg "len" = none):FnOk P w K mg base CX0 4 f fd ["steps","way","seed","left"] (spSSp K):=by
 refine F.ok scSSp (fun vs H Q E h=>?_) (fun cdv A outer s H vs Q E hr h=>?_)
 ·obtain ⟨u,wy,a,b,ts,sts,rfl,_⟩:=h
  rfl
 ·obtain ⟨u,wy,a,b,ts,sts,rfl,hu,hst,hsl,q⟩:=h
  refine ⟨_,pss_cons (ps_set (i:=4) scSSp.nd rfl (Or.inl rfl) (pe_op op_mod (pv 3) (pe_op op_add (pe_callB call_len_seq (by rfl) mlen PySem.boot_len (pa_cons (pv 0) pa_nil)) pe_int)))
   (pss_cons (ps_set (i:=5) scSSp.nd rfl (Or.inl rfl) (pe_call GFm hr (by rfl) DFm.at_ DFm.fn.kp DFm.bn .nil pass0 (pa_cons (pv 2) (pa_cons (pe_op op_fdiv (pv 3) pe_int) pa_nil))))
   (pss_cons (ps_if (pt_cmpR op_eq (pv 1) pe_int (nomark _)) (pss_one (ps_ret (pe_op op_catA (pe_slice sl_tupA (pv 0) po_none (po_some (pv 4))) (pe_slice sl_tupA (pv 0) (po_some (pe_op op_add (pv 4) pe_int)) po_none)))) pss_nil)
   (pss_cons (ps_if (pt_cmpR op_eq (pv 1) pe_int (nomark _)) (pss_one (ps_ret (pe_op op_catA (pe_op op_catA (pe_slice sl_tupA (pv 0) po_none (po_some (pv 4))) (pe_slice sl_tupA (pv 0) (po_some (pv 4)) (po_some (pe_op op_add (pv 4) pe_int)))) (pe_slice sl_tupA (pv 0) (po_some (pv 4)) po_none)))) pss_nil)
   (pss_cons (ps_if (pt_cmpR op_eq (pv 1) pe_int (nomark _)) (pss_one (ps_ret (pe_op op_catA (pe_op op_catA (pe_slice sl_tupA (pv 0) po_none (po_some (pv 4))) (pe_tup (pa_cons (pv 5) pa_nil))) (pe_slice sl_tupA (pv 0) (po_some (pv 4)) po_none)))) pss_nil)
   (pss_cons (ps_if (pt_cmpR op_eq (pv 1) pe_int (nomark _)) (pss_one (ps_ret (pe_op op_catA (pe_op op_catA (pe_slice sl_tupA (pv 0) po_none (po_some (pv 4))) (pe_tup (pa_cons (pv 5) pa_nil))) (pe_slice sl_tupA (pv 0) (po_some (pe_op op_add (pv 4) pe_int)) po_none)))) pss_nil)
   (pss_one (ps_ret (pv 0)))))))),?_⟩
  have htl:ts.length=sts.length:=hst.len
  have hml:(ts.map V.ref).length=ts.length:=List.length_map ..
  refine ⟨_,rfl,_,rfl,u,_,rfl,.inr hu,_,_,rfl,rfl,_,_,rfl,rfl,(show (0:Int) < (((ts.map V.ref).length:Nat):Int)+1 by omega),?_⟩
  obtain ⟨k,ek,hk⟩:=nat_of_mod (a:=b) (m:=(((ts.map V.ref).length:Nat):Int)+1) (by omega)
  show gName 4 (V.int (b % ((((ts.map V.ref).length:Nat):Int)+1))) _ _ _
  rw [ek]
  refine ⟨_,rfl,_,rfl,_,_,rfl,rfl,⟨by decide,by decide⟩,_,_,rfl,fun H1 t st S1 ht ho=>?_⟩
  have hu1:=sameT S1 hu
  have hst1:=hst.mono S1
  have first:∀ {R:V->Hp->Prop},(∀ b1 H2,Same H1 H2->SqT K H2 b1 ((ts.take k).map V.ref)->R (.ref b1) H2)->rSlTA K (.ref u) none (some ((k:Nat):Int)) H1 R:=fun h=>cutTup hu1 fun b1 H2 S2 k1=>h b1 H2 S2 (by rw [cutTake V.ref ts k] at k1;exact k1)
  have l1:((ts.take k).map V.ref).length<=200:=by rw [List.length_map,List.length_take];omega
  have l2:((ts.drop k).map V.ref).length<=200:=by rw [List.length_map,List.length_drop];omega
  have l3:((ts.drop (k+1)).map V.ref).length<=200:=by rw [List.length_map,List.length_drop];omega
  have l4:(((ts.drop k).take 1).map V.ref).length<=1:=by rw [List.length_map,List.length_take];omega
  refine ⟨_,rfl,rfl,_,rfl,ite2 (fun _=>?_) (fun _=>?_)⟩
  ·refine ⟨_,rfl,_,rfl,_,rfl,first fun b1 H2 S2 k1=>?_⟩
   refine ⟨_,rfl,_,rfl,_,_,rfl,rfl,_,rfl,?_⟩
   unfold tNoPart
   refine cutTup (sameT S2 hu1) fun b2 H3 S3 k2=>?_
   rw [show ((k:Nat):Int)+1=((k+1:Nat):Int) from rfl,cutFrom V.ref ts (k+1)] at k2
   refine ⟨b1,b2,_,_,rfl,rfl,sameT S3 k1,k2,few (by omega),fun b3 H4 S4 k3=>?_⟩
   have S04:=((S1.trans S2).trans S3).trans S4
   exact q _ b3 (ts.take k++ts.drop (k+1)) (sts.take k++sts.drop (k+1)) S04 (by rw [List.map_append];exact k3) (stAt_app (stAt_take (hst.mono S04) k) (stAt_drop (hst.mono S04) (k+1))) (by rw [List.length_append,List.length_take,List.length_drop];omega)
  refine ⟨_,rfl,rfl,_,rfl,ite2 (fun _=>?_) (fun _=>?_)⟩
  ·refine ⟨_,rfl,_,rfl,_,rfl,first fun b1 H2 S2 k1=>?_⟩
   refine ⟨_,rfl,_,rfl,_,rfl,_,rfl,_,_,rfl,rfl,_,rfl,?_⟩
   refine cutTup (sameT S2 hu1) fun b2 H3 S3 k2=>?_
   rw [cutMid V.ref ts k] at k2
   refine ⟨b1,b2,_,_,rfl,rfl,sameT S3 k1,k2,few (by omega),fun b3 H4 S4 k3=>?_⟩
   refine ⟨_,rfl,_,rfl,_,rfl,?_⟩
   unfold tNoPart
   refine cutTup (sameT ((S2.trans S3).trans S4) hu1) fun b4 H5 S5 k4=>?_
   rw [cutFrom V.ref ts k] at k4
   refine ⟨b3,b4,_,_,rfl,rfl,sameT S5 k3,k4,(by rw [List.length_append];exact few (by omega)),fun b5 H6 S6 k5=>?_⟩
   have S06:=((((S1.trans S2).trans S3).trans S4).trans S5).trans S6
   exact q _ b5 (ts.take k++(ts.drop k).take 1++ts.drop k) (sts.take k++(sts.drop k).take 1++sts.drop k) S06 (by rw [List.map_append,List.map_append];exact k5) (stAt_app (stAt_app (stAt_take (hst.mono S06) k) (stAt_take (stAt_drop (hst.mono S06) k) 1)) (stAt_drop (hst.mono S06) k)) (by rw [List.length_append,List.length_append,List.length_take,List.length_take,List.length_drop];omega)
  refine ⟨_,rfl,rfl,_,rfl,ite2 (fun _=>?_) (fun _=>?_)⟩
  ·refine ⟨_,rfl,_,rfl,_,rfl,first fun b1 H2 S2 k1=>⟨_,rfl,few (by show 1<=_;omega),fun a0 ha0=>?_⟩⟩
   have Sa:=same_upd (o:=.tup [V.ref t]) ha0
   refine ⟨b1,a0,_,_,rfl,rfl,sameT Sa k1,SqT.of upd_same,few (by show _+1<=_;omega),fun b3 H4 S4 k3=>?_⟩
   refine ⟨_,rfl,_,rfl,_,rfl,?_⟩
   unfold tNoPart
   have S24:=(S2.trans Sa).trans S4
   refine cutTup (sameT S24 hu1) fun b4 H5 S5 k4=>?_
   rw [cutFrom V.ref ts k] at k4
   refine ⟨b3,b4,_,_,rfl,rfl,sameT S5 k3,k4,(by rw [List.length_append];exact few (by show _+1+_<=_;omega)),fun b5 H6 S6 k5=>?_⟩
   have S16:=(S24.trans S5).trans S6
   have S06:=S1.trans S16
   exact q _ b5 (ts.take k++[t]++ts.drop k) (sts.take k++[st]++sts.drop k) S06 (by rw [List.map_append,List.map_append];exact k5) (stAt_app (stAt_app (stAt_take (hst.mono S06) k) (stAt_one (sameT S16 ht) ho)) (stAt_drop (hst.mono S06) k)) (by rw [List.length_append,List.length_append,List.length_take,List.length_drop];show _+1+_<=_;omega)
  refine ⟨_,rfl,rfl,_,rfl,ite2 (fun _=>?_) (fun _=>?_)⟩
  ·refine ⟨_,rfl,_,rfl,_,rfl,first fun b1 H2 S2 k1=>⟨_,rfl,few (by show 1<=_;omega),fun a0 ha0=>?_⟩⟩
   have Sa:=same_upd (o:=.tup [V.ref t]) ha0
   refine ⟨b1,a0,_,_,rfl,rfl,sameT Sa k1,SqT.of upd_same,few (by show _+1<=_;omega),fun b3 H4 S4 k3=>?_⟩
   refine ⟨_,rfl,_,rfl,_,_,rfl,rfl,_,rfl,?_⟩
   unfold tNoPart
   have S24:=(S2.trans Sa).trans S4
   refine cutTup (sameT S24 hu1) fun b4 H5 S5 k4=>?_
   rw [show ((k:Nat):Int)+1=((k+1:Nat):Int) from rfl,cutFrom V.ref ts (k+1)] at k4
   refine ⟨b3,b4,_,_,rfl,rfl,sameT S5 k3,k4,(by rw [List.length_append];exact few (by show _+1+_<=_;omega)),fun b5 H6 S6 k5=>?_⟩
   have S16:=(S24.trans S5).trans S6
   have S06:=S1.trans S16
   exact q _ b5 (ts.take k++[t]++ts.drop (k+1)) (sts.take k++[st]++sts.drop (k+1)) S06 (by rw [List.map_append,List.map_append];exact k5) (stAt_app (stAt_app (stAt_take (hst.mono S06) k) (stAt_one (sameT S16 ht) ho)) (stAt_drop (hst.mono S06) (k+1))) (by rw [List.length_append,List.length_append,List.length_take,List.length_drop];show _+1+_<=_;omega)
  ·exact ⟨_,rfl,q _ u ts sts S1 hu1 hst1 (by omega)⟩
theorem pi_tupKX {X:Cx} {K:PySem.W.Frag} {tg l:Expr} {tl:TE} (hK:X.K=K) (hl:PE X l tl):PI X tg l (iTup K tl):=by subst hK;exact pi_tup hl
def Shp (m n:Nat) (rows:List (List Int)):Prop:=rows.length=m+1/\∀ r ∈ rows,r.length=n+1
theorem rowsOf_shp (m n:Nat) (G:Nat->Nat->Int):Shp m n (rowsOf m n G):=by
 refine ⟨rowsOf_len ..,fun r hr=>?_⟩
 unfold rowsOf at hr
 obtain ⟨i,_,rfl⟩:=List.mem_map.mp hr
 rw [List.length_map,List.length_range]
theorem Shp.at {m n:Nat} {rows:List (List Int)} (h:Shp m n rows) {i:Nat} (hi:i<=m):∃ r,rows[i]?=some r/\r.length=n+1:=by
 have e:=List.getElem?_eq_getElem (show i < rows.length by have:=h.1;omega)
 exact ⟨_,e,h.2 _ (List.mem_of_getElem? e)⟩
theorem RowsAt.at {K:PySem.W.Frag} {H:Hp} {t:Addr} {us:List Addr} {rows:List (List Int)} {m n:Nat} (hT:RowsAt K H t us rows) (h:Shp m n rows) {i:Nat} (hi:i<=m):∃ (u:Addr) (r:List Int),us[i]?=some u/\rows[i]?=some r/\atI (us.map V.ref) ((i:Nat):Int)=some (.ref u)/\SqT K H u (r.map V.int)/\r.length=n+1:=by
 obtain ⟨r,e,hr⟩:=h.at hi
 have hl:i < us.length:=by rw [hT.len];exact (List.getElem?_eq_some_iff.mp e).1
 have eu:=List.getElem?_eq_getElem hl
 exact ⟨us[i],r,eu,e,atI_nat (by rw [List.getElem?_map,eu];rfl),hT.row i _ r eu e,hr⟩
theorem RowsAt.end_ {K:PySem.W.Frag} {H:Hp} {t:Addr} {us:List Addr} {rows:List (List Int)} {m n:Nat} (hT:RowsAt K H t us rows) (h:Shp m n rows):∃ (u:Addr) (r:List Int),atI (us.map V.ref) (-1)=some (.ref u)/\SqT K H u (r.map V.int)/\r.length=n+1:=by
 obtain ⟨u,r,eu,er,_,hu,hr⟩:=hT.at h (Nat.le_refl m)
 have hul:us.length=m+1:=hT.len.trans h.1
 refine ⟨u,r,atI_last ?_ (by rw [List.length_map];omega),hu,hr⟩
 rw [List.length_map,hul,Nat.add_sub_cancel,List.getElem?_map,eu]
 rfl
def spChg (K:PySem.W.Frag):Sp:=fun vs H Q _=>∃ (t:Addr) (us:List Addr) (rows:List (List Int)) (l v:Int) (m n:Nat),vs=[.ref t,.int l,.int v]/\RowsAt K H t us rows/\Shp m n rows/\m<=100/\n<=100 ∧
 ∀ (H':Hp) (t':Addr) (us':List Addr) (rows':List (List Int)),Same H H'->RowsAt K H' t' us' rows'->rows'.length<=1000->Q (.ref t') H'
theorem scChg:FnScope ["table","left","more","i","j","row"] ["table","left","more"] (defScope sChg):=⟨rfl,rfl,rfl,by decide +kernel,rfl,by decide +kernel,by decide +kernel⟩
theorem ok_chg {f:Addr} {fd:FuncData} (F:Fun K "_law_changed" "_law_changed" sChg f fd) (mlen:mg "len" = none):FnOk P w K mg base CX0 1 f fd ["table","left","more"] (spChg K):=by
 refine F.ok scChg (fun vs H Q E h=>?_) (fun cdv A outer s H vs Q E hr h=>?_)
 ·obtain ⟨t,us,rows,l,v,m,n,rfl,_⟩:=h
  rfl
 ·obtain ⟨t,us,rows,l,v,m,n,rfl,hT,hS,hm,hn,q⟩:=h
  refine ⟨_,pss_cons (ps_set (i:=3) scChg.nd rfl (Or.inl rfl) (pe_op op_mod (pv 1) (pe_callB call_len_seq (by rfl) mlen PySem.boot_len (pa_cons (pv 0) pa_nil))))
   (pss_cons (ps_set (i:=4) scChg.nd rfl (Or.inl rfl) (pe_op op_mod (pe_op op_fdiv (pv 1) pe_int) (pe_callB call_len_seq (by rfl) mlen PySem.boot_len (pa_cons (pe_ix ix_tup (pv 0) (pv 3) (fun _ _=>rfl)) pa_nil))))
   (pss_cons (ps_set (i:=5) scChg.nd rfl (Or.inl rfl) (pe_op op_catA (pe_op op_catA (pe_slice sl_tupA (pe_ix ix_tup (pv 0) (pv 3) (fun _ _=>rfl)) po_none (po_some (pv 4))) (pe_tup (pa_cons (pe_op op_add (pe_ix ix_tup (pe_ix ix_tup (pv 0) (pv 3) (fun _ _=>rfl)) (pv 4) (fun _ _=>rfl)) (pv 2)) pa_nil))) (pe_slice sl_tupA (pe_ix ix_tup (pv 0) (pv 3) (fun _ _=>rfl)) (po_some (pe_op op_add (pv 4) pe_int)) po_none)))
   (pss_one (ps_ret (pe_op op_catA (pe_op op_catA (pe_slice sl_tupA (pv 0) po_none (po_some (pv 3))) (pe_tup (pa_cons (pv 5) pa_nil))) (pe_slice sl_tupA (pv 0) (po_some (pe_op op_add (pv 3) pe_int)) po_none)))))),?_⟩
  have eul:us.length=rows.length:=hT.len
  have hml:(us.map V.ref).length=us.length:=List.length_map ..
  have hrl:=hS.1
  refine ⟨_,rfl,_,rfl,t,_,rfl,.inr hT.top,_,_,rfl,rfl,(show (0:Int) < (((us.map V.ref).length:Nat):Int) by omega),?_⟩
  obtain ⟨i,ei,hi⟩:=nat_of_mod (a:=l) (m:=(((us.map V.ref).length:Nat):Int)) (by omega)
  show gName 3 (V.int (l % (((us.map V.ref).length:Nat):Int))) _ _ _
  rw [ei]
  obtain ⟨u,r,eu,er,au,hU,hr⟩:=hT.at hS (show i<=m by omega)
  have hrm:(r.map V.int).length=r.length:=List.length_map ..
  refine ⟨_,rfl,_,_,rfl,rfl,⟨by decide,by decide⟩,_,rfl,_,rfl,t,_,_,_,rfl,rfl,hT.top,au,u,_,rfl,.inr hU,_,_,rfl,rfl,(show (0:Int) < (((r.map V.int).length:Nat):Int) by omega),?_⟩
  obtain ⟨j,ej,hj⟩:=nat_of_mod (a:=l / 60) (m:=(((r.map V.int).length:Nat):Int)) (by omega)
  show gName 4 (V.int (l / 60 % (((r.map V.int).length:Nat):Int))) _ _ _
  rw [ej]
  have exj:=List.getElem?_eq_getElem (show j < r.length by omega)
  have ax:atI (r.map V.int) ((j:Nat):Int)=some (.int r[j]):=atI_nat (by rw [List.getElem?_map,exj];rfl)
  generalize r[j]=x at ax
  refine ⟨_,rfl,_,rfl,t,_,_,_,rfl,rfl,hT.top,au,_,rfl,_,rfl,cutTup hU fun a1 H1 S1 h1=>?_⟩
  rw [cutTake V.int r j] at h1
  refine ⟨_,rfl,_,rfl,t,_,_,_,rfl,rfl,sameT S1 hT.top,au,_,rfl,u,_,_,_,rfl,rfl,sameT S1 hU,ax,_,rfl,_,_,rfl,rfl,few (by show 1<=_;omega),fun a2 ha2=>?_⟩
  have S2:=S1.trans (same_upd (o:=.tup [V.int (x+v)]) ha2)
  refine ⟨a1,a2,_,_,rfl,rfl,sameT (same_upd ha2) h1,SqT.of upd_same,(by rw [List.length_map,List.length_take];exact few (by show _+1<=_;omega)),fun a3 H3 S3 h3=>?_⟩
  have S03:=S2.trans S3
  refine ⟨_,rfl,_,rfl,t,_,_,_,rfl,rfl,sameT S03 hT.top,au,_,rfl,_,_,rfl,rfl,_,rfl,?_⟩
  try unfold tNoPart
  refine cutTup (sameT S03 hU) fun a4 H4 S4 h4=>?_
  rw [show ((j:Nat):Int)+1=((j+1:Nat):Int) from rfl,cutFrom V.int r (j+1)] at h4
  have S04:=S03.trans S4
  refine ⟨a3,a4,_,_,rfl,rfl,sameT S4 h3,h4,(by rw [List.length_append,List.length_map,List.length_map,List.length_take,List.length_drop];exact few (by show _+1+_<=_;omega)),fun a5 H5 S5 h5=>?_⟩
  have S05:=S04.trans S5
  have h5':SqT K H5 a5 ((r.take j++[x+v]++r.drop (j+1)).map V.int):=by rw [List.map_append,List.map_append];exact h5
  refine ⟨_,rfl,_,rfl,_,rfl,cutTup (sameT S05 hT.top) fun b1 H6 S6 k1=>?_⟩
  rw [cutTake V.ref us i] at k1
  refine ⟨_,rfl,few (by show 1<=_;omega),fun b2 hb2=>?_⟩
  have S7:=same_upd (o:=.tup [V.ref a5]) hb2
  refine ⟨b1,b2,_,_,rfl,rfl,sameT S7 k1,SqT.of upd_same,(by rw [List.length_map,List.length_take];exact few (by show _+1<=_;omega)),fun b3 H8 S8 k3=>?_⟩
  have S08:=((S05.trans S6).trans S7).trans S8
  refine ⟨_,rfl,_,rfl,_,_,rfl,rfl,_,rfl,?_⟩
  try unfold tNoPart
  refine cutTup (sameT S08 hT.top) fun b4 H9 S9 k4=>?_
  rw [show ((i:Nat):Int)+1=((i+1:Nat):Int) from rfl,cutFrom V.ref us (i+1)] at k4
  refine ⟨b3,b4,_,_,rfl,rfl,sameT S9 k3,k4,(by rw [List.length_append,List.length_map,List.length_map,List.length_take,List.length_drop];exact few (by show _+1+_<=_;omega)),fun b5 H10 S10 k5=>?_⟩
  have S010:=(S08.trans S9).trans S10
  have S510:=(((S6.trans S7).trans S8).trans S9).trans S10
  have hrr:=((hT.rr.mono S010).take i |>.app (RR.one (sameT S510 h5'))).app ((hT.rr.mono S010).drop (i+1))
  exact q _ b5 (us.take i++[a5]++us.drop (i+1)) _ S010 ⟨by rw [List.map_append,List.map_append];exact k5,hrr.len,hrr.row⟩ (by rw [List.length_append,List.length_append,List.length_take,List.length_drop];show _+1+_<=_;omega)
def spLast (K:PySem.W.Frag):Sp:=fun vs H Q _=>∃ (t:Addr) (us:List Addr) (rows:List (List Int)) (c:Int) (m n:Nat),vs=[.ref t,.int c]/\RowsAt K H t us rows/\Shp m n rows/\m<=100/\n<=100 ∧
 ∀ (H':Hp) (t':Addr) (us':List Addr) (rows':List (List Int)),Same H H'->RowsAt K H' t' us' rows'->Shp m n rows'->Q (.ref t') H'
theorem scLast:FnScope ["table","price"] ["table","price"] (defScope sLast):=⟨rfl,rfl,rfl,by decide +kernel,rfl,by decide +kernel,by decide +kernel⟩
theorem last_shp {m n:Nat} {rows:List (List Int)} {r:List Int} (h:Shp m n rows) (hr:r.length=n+1):Shp m n (rows.take m++[r]):=by
 refine ⟨by rw [List.length_append,List.length_take,h.1];show _+1=_;omega,fun z hz=>?_⟩
 rcases List.mem_append.mp hz with hz | hz
 ·exact h.2 z (List.mem_of_mem_take hz)
 ·rw [List.mem_singleton.mp hz];exact hr
theorem ok_last {f:Addr} {fd:FuncData} (F:Fun K "_law_last" "_law_last" sLast f fd):FnOk P w K mg base CX0 1 f fd ["table","price"] (spLast K):=by
 refine F.ok scLast (fun vs H Q E h=>?_) (fun cdv A outer s H vs Q E hr h=>?_)
 ·obtain ⟨t,us,rows,c,m,n,rfl,_⟩:=h
  rfl
 ·obtain ⟨t,us,rows,c,m,n,rfl,hT,hS,hm,hn,q⟩:=h
  refine ⟨_,pss_one (ps_ret (pe_op op_catA (pe_slice sl_tupA (pv 0) po_none (po_some (pe_un un_neg pe_int))) (pe_tup (pa_cons (pe_op op_catA (pe_slice sl_tupA (pe_ix ix_tup (pv 0) (pe_un un_neg pe_int) (fun _ _=>rfl)) po_none (po_some (pe_un un_neg pe_int))) (pe_tup (pa_cons (pv 1) pa_nil))) pa_nil)))),?_⟩
  have eul:us.length=m+1:=hT.len.trans hS.1
  obtain ⟨u,r,au,hU,hr⟩:=hT.end_ hS
  refine ⟨_,rfl,_,rfl,_,rfl,cutTup hT.top fun b1 H1 S1 k1=>?_⟩
  rw [cutInit V.ref us] at k1
  refine ⟨_,rfl,_,rfl,t,_,_,_,rfl,rfl,sameT S1 hT.top,au,_,rfl,_,rfl,cutTup (sameT S1 hU) fun b2 H2 S2 k2=>?_⟩
  rw [cutInit V.int r] at k2
  refine ⟨_,rfl,few (by show 1<=_;omega),fun b3 hb3=>?_⟩
  have S3:=same_upd (o:=.tup [V.int c]) hb3
  refine ⟨b2,b3,_,_,rfl,rfl,sameT S3 k2,SqT.of upd_same,(by rw [List.length_map,List.length_dropLast];exact few (by show _+1<=_;omega)),fun b4 H4 S4 k4=>?_⟩
  refine ⟨few (by show 1<=_;omega),fun b5 hb5=>?_⟩
  have S5:=same_upd (o:=.tup [V.ref b4]) hb5
  refine ⟨b1,b5,_,_,rfl,rfl,sameT (((S2.trans S3).trans S4).trans S5) k1,SqT.of upd_same,(by rw [List.length_map,List.length_dropLast];exact few (by show _+1<=_;omega)),fun b6 H6 S6 k6=>?_⟩
  have S06:=((((S1.trans S2).trans S3).trans S4).trans S5).trans S6
  have hrow:SqT K H6 b4 ((r.dropLast++[c]).map V.int):=by rw [List.map_append];exact sameT (S5.trans S6) k4
  have hrr:=((hT.rr.mono S06).take m).app (RR.one hrow)
  refine q _ b6 (us.take m++[b4]) (rows.take m++[r.dropLast++[c]]) S06 ⟨?_,hrr.len,hrr.row⟩ (last_shp hS (by rw [List.length_append,List.length_dropLast,hr];rfl))
  rw [List.map_append]
  rw [List.dropLast_eq_take,eul] at k6
  exact k6
theorem cutEnd {α:Type} (g:α->V) (xs:List α):cutV (xs.map g) (some (-1)) none=(xs.drop (xs.length - 1)).map g:=by
 unfold cutV
 have e1:HT.sIx (xs.map g).length 0 (some (-1))=xs.length - 1:=by
  rw [List.length_map]
  show (if (-1:Int) < 0 then ((-1:Int)+((xs.length:Nat):Int)).toNat else min ((-1:Int)).toNat xs.length)=_
  rw [if_pos (by decide)]
  omega
 rw [e1,HT.sIx_none,List.length_map,<-List.map_drop]
 exact List.take_of_length_le (by rw [List.length_map,List.length_drop];omega)
def spTSp (K:PySem.W.Frag):Sp:=fun vs H Q _=>∃ (t:Addr) (us:List Addr) (rows:List (List Int)) (wy l:Int) (m n:Nat),vs=[.ref t,.int wy,.int l]/\RowsAt K H t us rows/\Shp m n rows/\m<=100/\n<=100 ∧
 ∀ (H':Hp) (t':Addr) (us':List Addr) (rows':List (List Int)),Same H H'->RowsAt K H' t' us' rows'->rows'.length<=1000->Q (.ref t') H'
theorem scTSp:FnScope ["table","way","left","at","row"] ["table","way","left"] (defScope sTSp):=⟨rfl,rfl,rfl,by decide +kernel,rfl,by decide +kernel,by decide +kernel⟩
theorem nd_row1:(["row"]:List Str).Nodup:=by decide +kernel
theorem nd_one1:(["one"]:List Str).Nodup:=by decide +kernel
theorem nd_kt:(["k","table"]:List Str).Nodup:=by decide +kernel
theorem nd_rk:(["row","k"]:List Str).Nodup:=by decide +kernel
theorem RR.snoc {K:PySem.W.Frag} {H:Hp} {us:List Addr} {rows:List (List Int)} {u:Addr} {r:List Int} (h:RR K H us rows) (hu:SqT K H u (r.map V.int)):RR K H (us++[u]) (rows++[r]):=h.app (RR.one hu)
theorem ok_tsp {f gCg:Addr} {fd dCg:FuncData} (F:Fun K "_law_table_spoilt" "_law_table_spoilt" sTSp f fd) (DCg:Dfn K mg "_law_changed" sChg gCg dCg ["table","left","more"]) (GCg:FnOk P w K mg base CX0 4 gCg dCg ["table","left","more"] (spChg K)) (mlen:mg "len" = none) (mrange:mg "range" = none) (mtup:mg "tuple" = none):FnOk P w K mg base CX0 5 f fd ["table","way","left"] (spTSp K):=by
 refine F.ok scTSp (fun vs H Q E h=>?_) (fun cdv A outer s H vs Q E hr h=>?_)
 ·obtain ⟨t,us,rows,wy,l,m,n,rfl,_⟩:=h
  rfl
 ·obtain ⟨t,us,rows,wy,l,m,n,rfl,hT,hS,hm,hn,q⟩:=h
  refine ⟨_,pss_cons (ps_if (PW.pt (pw_or (pt_cmpR op_eq (pv 1) pe_int (nomark _)) (pw_or1 (pt_cmpR op_eq (pv 1) pe_int (nomark _))))) (pss_one (ps_ret (pe_call GCg hr (by rfl) DCg.at_ DCg.fn.kp DCg.bn .nil pass0 (pa_cons (pv 0) (pa_cons (pv 2) (pa_cons (pe_op op_mul (pe_op op_add pe_int (pe_op op_mod (pe_op op_fdiv (pv 2) pe_int) pe_int)) (pe_op op_sub pe_int (pe_op op_mul pe_int (pv 1)))) pa_nil)))))) pss_nil)
   (pss_cons (ps_if (pt_cmpR op_eq (pv 1) pe_int (nomark _)) (pss_cons (ps_set (i:=3) scTSp.nd rfl (Or.inl rfl) (pe_op op_mod (pv 2) (pe_callB call_len_seq (by rfl) mlen PySem.boot_len (pa_cons (pv 0) pa_nil))))
   (pss_cons (ps_set (i:=4) scTSp.nd rfl (Or.inl rfl) (pe_ix ix_list (pe_lst (pa_cons (pe_slice sl_tupA (pe_ix ix_tup (pv 0) (pv 3) (fun _ _=>rfl)) po_none (po_some (pe_un un_neg pe_int))) (pa_cons (pe_op op_catA (pe_ix ix_tup (pv 0) (pv 3) (fun _ _=>rfl)) (pe_tup (pa_cons pe_int pa_nil))) (pa_cons (pe_op op_catA (pe_ix ix_tup (pv 0) (pv 3) (fun _ _=>rfl)) (pe_slice sl_tupA (pe_ix ix_tup (pv 0) (pv 3) (fun _ _=>rfl)) (po_some (pe_un un_neg pe_int)) po_none)) pa_nil)))) (pe_op op_mod (pe_op op_fdiv (pv 2) pe_int) pe_int) (fun _ _=>rfl)))
   (pss_one (ps_ret (pe_op op_catA (pe_op op_catA (pe_slice sl_tupA (pv 0) po_none (po_some (pv 3))) (pe_tup (pa_cons (pv 4) pa_nil))) (pe_slice sl_tupA (pv 0) (po_some (pe_op op_add (pv 3) pe_int)) po_none)))))) pss_nil)
   (pss_cons (ps_if (pt_cmpR op_eq (pv 1) pe_int (nomark _)) (pss_one (ps_ret (pe_op op_catA (pv 0) (pe_slice sl_tupA (pv 0) (po_some (pe_un un_neg pe_int)) po_none)))) pss_nil)
   (pss_cons (ps_if (pt_cmpR op_eq (pv 1) pe_int (nomark _)) (pss_one (ps_ret (pe_callTy call_tuple_of (by rfl) mtup boot_tuple (pa_cons (pe_comp (Nc:=["row"]) (mp:=[none]) rfl (CompOk.of (by rfl)) (pi_tup (pv 0)) (fun cl C s H fp=>⟨pg_name (i:=0) nd_row1 rfl (Or.inl rfl),pts_nil,(pe_callTy (call_tuple_ofK (K:=K) rfl) (by rfl) mtup boot_tuple (pa_cons (pe_comp (Nc:=["one"]) (mp:=[none]) rfl (CompOk.of (by rfl)) (pi_tupKX (K:=K) rfl (pv 0)) (fun cl C s H fp=>⟨pg_name (i:=0) nd_one1 rfl (Or.inl rfl),pts_nil,(pe_op op_add (pv 0) pe_int)⟩)) pa_nil))⟩)) pa_nil)))) pss_nil)
   (pss_cons (ps_if (pt_cmpR op_eq (pv 1) pe_int (nomark _)) (pss_one (ps_ret (pe_callTy call_tuple_of (by rfl) mtup boot_tuple (pa_cons (pe_compC (Nc:=["k","table"]) (mp:=[none,some 0]) (x0 := "k") rfl (CompOkC.of (fun _ _=>rfl) (fun _=>rfl) (by rfl)) (pi_range1 (by rfl) mrange (pa_cons (pe_callB call_len_seq (by rfl) mlen PySem.boot_len (pa_cons (pe_ix ix_tup (pv 0) pe_int (fun _ _=>rfl)) pa_nil)) pa_nil)) (fun c0 cl C s H fp=>⟨pg_name (i:=0) nd_kt rfl (Or.inr rfl) (Or.inl (beq_self_eq_true _)),pts_nil,(pe_callTy (call_tuple_ofK (K:=K) rfl) (by rfl) mtup boot_tuple (pa_cons (pe_comp (Nc:=["row","k"]) (mp:=[none,some 0]) rfl (CompOk.of (by rfl)) (pi_tupKX (K:=K) rfl (pv 1)) (fun cl C s H fp=>⟨pg_name (i:=0) nd_rk rfl (Or.inl rfl),pts_nil,(pe_ix (ix_tupK (K:=K) rfl) (pv 0) (pv 1) (fun _ _=>rfl))⟩)) pa_nil))⟩)) pa_nil)))) pss_nil)
   (pss_one (ps_ret (pv 0))))))),?_⟩
  have eul:us.length=m+1:=hT.len.trans hS.1
  have hml:(us.map V.ref).length=us.length:=List.length_map ..
  have hrl:=hS.1
  -- one number changed
  have mulB:∀ y:Int,CMul (1+l / 4000 % 3) y:=fun y=>.inl ⟨by have:=Int.emod_nonneg (l / 4000) (show (3:Int) ≠ 0 by decide);omega,by have:=Int.emod_lt_of_pos (l / 4000) (show (0:Int) < 3 by decide);omega⟩
  refine ⟨_,rfl,rfl,_,rfl,ite2 (fun _=>?_) (fun _=>?_)⟩
  ·refine iteT ?_
   refine ⟨_,rfl,_,rfl,_,rfl,_,_,rfl,rfl,⟨by decide,by decide⟩,_,_,rfl,rfl,(by show (0:Int) < 3;decide),_,_,rfl,rfl,_,rfl,_,_,rfl,rfl,.inl ⟨by decide,by decide⟩,_,_,rfl,rfl,_,_,rfl,rfl,mulB _,t,us,rows,l,_,m,n,rfl,hT,hS,hm,hn,q⟩
  refine ⟨_,rfl,rfl,_,rfl,ite2 (fun _=>?_) (fun _=>?_)⟩
  ·refine ⟨_,rfl,_,rfl,_,rfl,_,_,rfl,rfl,⟨by decide,by decide⟩,_,_,rfl,rfl,(by show (0:Int) < 3;decide),_,_,rfl,rfl,_,rfl,_,_,rfl,rfl,.inl ⟨by decide,by decide⟩,_,_,rfl,rfl,_,_,rfl,rfl,mulB _,t,us,rows,l,_,m,n,rfl,hT,hS,hm,hn,q⟩
  -- a row shorter or longer
  refine ⟨_,rfl,rfl,_,rfl,ite2 (fun _=>?_) (fun _=>?_)⟩
  ·refine ⟨_,rfl,_,rfl,t,_,rfl,.inr hT.top,_,_,rfl,rfl,(show (0:Int) < (((us.map V.ref).length:Nat):Int) by omega),?_⟩
   obtain ⟨i,ei,hi⟩:=nat_of_mod (a:=l) (m:=(((us.map V.ref).length:Nat):Int)) (by omega)
   show gName 3 (V.int (l % (((us.map V.ref).length:Nat):Int))) _ _ _
   rw [ei]
   obtain ⟨u,r,eu,er,au,hU,hr'⟩:=hT.at hS (show i<=m by omega)
   refine ⟨_,rfl,_,rfl,t,_,_,_,rfl,rfl,hT.top,au,_,rfl,_,rfl,cutTup hU fun c1 H1 S1 k1=>?_⟩
   rw [cutInit V.int r] at k1
   refine ⟨_,rfl,_,rfl,t,_,_,_,rfl,rfl,sameT S1 hT.top,au,few (by show 1<=_;omega),fun c2 hc2=>?_⟩
   have S2:=same_upd (o:=.tup [V.int 0]) hc2
   refine ⟨u,c2,_,_,rfl,rfl,sameT (S1.trans S2) hU,SqT.of upd_same,(by rw [List.length_map];exact few (by show _+1<=_;omega)),fun c3 H3 S3 k3=>?_⟩
   have S03:=(S1.trans S2).trans S3
   refine ⟨_,rfl,_,rfl,t,_,_,_,rfl,rfl,sameT S03 hT.top,au,_,rfl,_,rfl,t,_,_,_,rfl,rfl,sameT S03 hT.top,au,_,rfl,_,rfl,?_⟩
   try unfold tNoPart
   refine cutTup (sameT S03 hU) fun c4 H4 S4 k4=>?_
   rw [cutEnd V.int r] at k4
   refine ⟨u,c4,_,_,rfl,rfl,sameT (S03.trans S4) hU,k4,(by rw [List.length_map,List.length_map,List.length_drop];exact few (by omega)),fun c5 H5 S5 k5=>?_⟩
   refine ⟨few (by show 3<=_;omega),fun ll hll=>?_⟩
   have S6:=same_upd (o:=.lst [V.ref c1,.ref c3,.ref c5]) hll
   have S16:=((((S2.trans S3).trans S4).trans S5).trans S6)
   have S06:=S1.trans S16
   obtain ⟨k,ek,hk⟩:=nat_of_mod (a:=l / 60) (m:=3) (by decide)
   refine ⟨_,rfl,_,_,rfl,rfl,⟨by decide,by decide⟩,_,_,rfl,rfl,(by show (0:Int) < 3;decide),?_⟩
   have kl:=upd_same (H:=H5) (a:=ll) (o:=.lst [V.ref c1,.ref c3,.ref c5])
   obtain ⟨y,ry,ey,hy⟩:∃ (y:Addr) (ry:List Int),[V.ref c1,.ref c3,.ref c5][k]?=some (.ref y)/\SqT K (upd H5 ll (.lst [V.ref c1,.ref c3,.ref c5])) y (ry.map V.int):=by
    match k,hk with
    | 0,_=>exact ⟨c1,_,rfl,sameT S16 k1⟩
    | 1,_=>exact ⟨c3,r++[0],rfl,by rw [List.map_append];exact sameT ((S4.trans S5).trans S6) k3⟩
    | 2,_=>exact ⟨c5,r++r.drop (r.length - 1),rfl,by rw [List.map_append];exact sameT S6 k5⟩
    | n+3,h=>omega
   refine ⟨ll,_,_,_,rfl,rfl,SqL.of kl,(by rw [ek];exact atI_nat ey),?_⟩
   generalize upd H5 ll (.lst [V.ref c1,.ref c3,.ref c5])=H6 at S6 S16 S06 kl hy
   refine ⟨_,rfl,_,rfl,_,rfl,cutTup (sameT S06 hT.top) fun b1 H7 S7 k1=>?_⟩
   rw [cutTake V.ref us i] at k1
   refine ⟨_,rfl,few (by show 1<=_;omega),fun b2 hb2=>?_⟩
   have S8:=same_upd (o:=.tup [V.ref y]) hb2
   refine ⟨b1,b2,_,_,rfl,rfl,sameT S8 k1,SqT.of upd_same,(by rw [List.length_map,List.length_take];exact few (by show _+1<=_;omega)),fun b3 H9 S9 k3=>?_⟩
   have S09:=((S06.trans S7).trans S8).trans S9
   refine ⟨_,rfl,_,rfl,_,_,rfl,rfl,_,rfl,?_⟩
   try unfold tNoPart
   refine cutTup (sameT S09 hT.top) fun b4 H10 S10 k4=>?_
   rw [show ((i:Nat):Int)+1=((i+1:Nat):Int) from rfl,cutFrom V.ref us (i+1)] at k4
   refine ⟨b3,b4,_,_,rfl,rfl,sameT S10 k3,k4,(by rw [List.length_append,List.length_map,List.length_map,List.length_take,List.length_drop];exact few (by show _+1+_<=_;omega)),fun b5 H11 S11 k5=>?_⟩
   have S011:=(S09.trans S10).trans S11
   have S611:=(((S7.trans S8).trans S9).trans S10).trans S11
   have hrr:=((hT.rr.mono S011).take i |>.app (RR.one (sameT S611 hy))).app ((hT.rr.mono S011).drop (i+1))
   exact q _ b5 (us.take i++[y]++us.drop (i+1)) _ S011 ⟨by rw [List.map_append,List.map_append];exact k5,hrr.len,hrr.row⟩ (by rw [List.length_append,List.length_append,List.length_take,List.length_drop];show _+1+_<=_;omega)
  -- one row more
  refine ⟨_,rfl,rfl,_,rfl,ite2 (fun _=>?_) (fun _=>?_)⟩
  ·refine ⟨_,rfl,_,rfl,_,rfl,_,rfl,?_⟩
   try unfold tNoPart
   refine cutTup hT.top fun b1 H1 S1 k1=>?_
   rw [cutEnd V.ref us] at k1
   refine ⟨t,b1,_,_,rfl,rfl,sameT S1 hT.top,k1,(by rw [List.length_map,List.length_map,List.length_drop];exact few (by omega)),fun b2 H2 S2 k2=>?_⟩
   have S02:=S1.trans S2
   have hrr:=(hT.rr.mono S02).app ((hT.rr.mono S02).drop (us.length - 1))
   exact q _ b2 (us++us.drop (us.length - 1)) _ S02 ⟨by rw [List.map_append];exact k2,hrr.len,hrr.row⟩ (by rw [List.length_append,List.length_drop];omega)
  -- all numbers greater
  have hzl:(us.zip rows).length=m+1:=by rw [List.length_zip,eul,hrl];exact Nat.min_self _
  have etop:(us.zip rows).map (fun x=>V.ref x.1)=us.map V.ref:=by
   rw [show (fun x:Addr × List Int=>V.ref x.1)=V.ref ∘ Prod.fst from rfl,<-List.map_map,List.map_fst_zip (by rw [hT.len];exact Nat.le_refl _)]
  have ezip:∀ (i:Nat) (x:Addr × List Int),(us.zip rows)[i]?=some x->us[i]?=some x.1/\rows[i]?=some x.2:=fun i x h=>List.getElem?_zip_eq_some.mp h
  refine ⟨_,rfl,rfl,_,rfl,ite2 (fun _=>?_) (fun _=>?_)⟩
  ·refine ⟨_,rfl,t,rfl,⟨_,hT.top⟩,comp_grow (as:=us.zip rows) (v:=fun x=>V.ref x.1) (fun i acc H'=>∃ (ps:List Addr) (rs:List (List Int)),acc=ps.map V.ref/\ps.length=i/\RR K H' ps rs/\Same H H')
    (fun i acc H' _ ⟨_,_,_,_,_,S⟩=>src_tup (by rw [etop];exact sameT S hT.top)) (by rw [hzl];exact few (by omega)) ⟨[],[],rfl,rfl,⟨rfl,fun i u r e=>by simp at e⟩,Same.refl _⟩ (fun i acc H' ⟨ps,_,e,hl,_⟩=>by rw [e,List.length_map,hl]) ?_ ?_⟩
   ·rintro i x acc H' hx ⟨ps,rs,rfl,hpl,hR,S⟩ kk hkk
    obtain ⟨e1,e2⟩:=ezip i x hx
    have hrow:=sameT S (hT.row i _ _ e1 e2)
    have hxl:=hS.2 _ (List.mem_of_getElem? e2)
    refine ⟨_,rfl,x.1,rfl,⟨_,hrow⟩,comp_map (as:=x.2) (v:=V.int) (fun z=>.int (z+1)) (src_tup hrow) (by rw [hxl];exact few (by omega)) (fun z hz k hk=>⟨_,rfl,_,_,rfl,rfl,hk⟩) (fun D hD=>?_)⟩
    have SD:=same_upd (o:=.lst (x.2.map fun z=>V.int (z+1))) hD
    refine ⟨D,_,rfl,.inl ⟨SqL.of upd_same,fun t2 ht2=>?_⟩⟩
    have St:=same_upd (o:=.tup (x.2.map fun z=>V.int (z+1))) ht2
    refine hkk _ _ ⟨ps++[t2],rs++[x.2.map (·+1)],by rw [List.map_append];rfl,by rw [List.length_append,hpl];rfl,(hR.mono (SD.trans St)).snoc ?_,(S.trans SD).trans St⟩
    rw [List.map_map]
    exact SqT.of upd_same
   ·rintro acc H' ⟨ps,rs,rfl,hpl,hR,S⟩ D hD
    have SD:=same_upd (o:=.lst (ps.map V.ref)) hD
    refine ⟨D,_,rfl,.inl ⟨SqL.of upd_same,fun t2 ht2=>?_⟩⟩
    have St:=same_upd (o:=.tup (ps.map V.ref)) ht2
    have hrr:=hR.mono (SD.trans St)
    exact q _ t2 ps rs ((S.trans SD).trans St) ⟨SqT.of upd_same,hrr.len,hrr.row⟩ (by have:=hrr.len;rw [hpl,hzl] at this;omega)
  -- rows and columns exchanged
  refine ⟨_,rfl,rfl,_,rfl,ite2 (fun _=>?_) (fun _=>?_)⟩
  ·obtain ⟨u0,r0,_,_,au0,hU0,hr0⟩:=hT.at hS (Nat.zero_le m)
   have hrm:(r0.map V.int).length=n+1:=by rw [List.length_map];exact hr0
   refine ⟨_,rfl,t,_,_,_,rfl,rfl,hT.top,au0,u0,_,rfl,.inr hU0,_,rfl,by omega,by omega,?_⟩
   rw [hrm,show (((n+1:Nat):Int)).toNat=n+1 by omega]
   refine comp_grow (as:=List.range (n+1)) (v:=fun k=>.int (0+((k:Nat):Int))) (fun i acc H'=>∃ (ps:List Addr) (rs:List (List Int)),acc=ps.map V.ref/\ps.length=i/\RR K H' ps rs/\Same H H')
    (fun i acc H' _ _=>src_range 0 (n+1) H') (by rw [List.length_range];exact few (by omega)) ⟨[],[],rfl,rfl,⟨rfl,fun i u r e=>by simp at e⟩,Same.refl _⟩ (fun i acc H' ⟨ps,_,e,hl,_⟩=>by rw [e,List.length_map,hl]) ?_ ?_
   ·rintro i k acc H' hk' ⟨ps,rs,rfl,hpl,hR,S⟩ kk hkk
    have hkm:k < n+1:=List.mem_range.mp (List.mem_of_getElem? hk')
    have ei:(0:Int)+((k:Nat):Int)=((k:Nat):Int):=by omega
    rw [ei]
    refine ⟨_,rfl,t,rfl,⟨_,sameT S hT.top⟩,comp_map (as:=us.zip rows) (v:=fun x=>V.ref x.1) (fun x=>.int ((x.2[k]?).getD 0)) (src_tup (by rw [etop];exact sameT S hT.top)) (by rw [hzl];exact few (by omega)) (fun x hx kc hkc=>?_) (fun D hD=>?_)⟩
    ·obtain ⟨j,hj⟩:=List.mem_iff_getElem?.mp hx
     obtain ⟨e1,e2⟩:=ezip j x hj
     have hxl:=hS.2 _ (List.mem_of_getElem? e2)
     have exk:=List.getElem?_eq_getElem (show k < x.2.length by omega)
     refine ⟨_,rfl,_,rfl,x.1,_,_,_,rfl,rfl,sameT S (hT.row j _ _ e1 e2),atI_nat (v:=.int ((x.2[k]?).getD 0)) ?_,hkc⟩
     rw [List.getElem?_map,exk]
     rfl
    have SD:=same_upd (o:=.lst ((us.zip rows).map fun x=>V.int ((x.2[k]?).getD 0))) hD
    refine ⟨D,_,rfl,.inl ⟨SqL.of upd_same,fun t2 ht2=>?_⟩⟩
    have St:=same_upd (o:=.tup ((us.zip rows).map fun x=>V.int ((x.2[k]?).getD 0))) ht2
    refine hkk _ _ ⟨ps++[t2],rs++[(us.zip rows).map fun x=>(x.2[k]?).getD 0],by rw [List.map_append];rfl,by rw [List.length_append,hpl];rfl,(hR.mono (SD.trans St)).snoc ?_,(S.trans SD).trans St⟩
    rw [List.map_map]
    exact SqT.of upd_same
   ·rintro acc H' ⟨ps,rs,rfl,hpl,hR,S⟩ D hD
    have SD:=same_upd (o:=.lst (ps.map V.ref)) hD
    refine ⟨D,_,rfl,.inl ⟨SqL.of upd_same,fun t2 ht2=>?_⟩⟩
    have St:=same_upd (o:=.tup (ps.map V.ref)) ht2
    have hrr:=hR.mono (SD.trans St)
    exact q _ t2 ps rs ((S.trans SD).trans St) ⟨SqT.of upd_same,hrr.len,hrr.row⟩ (by have:=hrr.len;rw [hpl,List.length_range] at this;omega)
  ·exact ⟨_,rfl,q _ t us rows (Same.refl _) hT (by omega)⟩
def PpS (K:PySem.W.Frag) (H:Hp) (u:Addr):Prop:=∃ (ts:List Addr) (sts:List Sk),SqT K H u (ts.map V.ref)/\StepsAt K H ts sts/\sts.length<=100
def PpT (K:PySem.W.Frag) (H:Hp) (m n:Nat) (t:Addr):Prop:=∃ (us:List Addr) (rows:List (List Int)),RowsAt K H t us rows/\Shp m n rows
theorem PpS.mono {K:PySem.W.Frag} {H H':Hp} {u:Addr} (h:PpS K H u) (S:Same H H'):PpS K H' u:=by
 obtain ⟨ts,sts,h1,h2,h3⟩:=h
 exact ⟨ts,sts,sameT S h1,h2.mono S,h3⟩
theorem PpT.mono {K:PySem.W.Frag} {H H':Hp} {m n:Nat} {t:Addr} (h:PpT K H m n t) (S:Same H H'):PpT K H' m n t:=by
 obtain ⟨us,rows,h1,h2⟩:=h
 exact ⟨us,rows,h1.mono S,h2⟩
def spPaper (P:Program) (w:World) (K:PySem.W.Frag):Sp:=fun vs H Q _=>∃ (x r d:Addr) (e c0 s0:Addr) (sd n0:Int) (es cs:List Str) (pr:List Int) (ys:List Pk) (R:Nat->Nat->Int) (ds:List Addr) (dts:List Sk) (pl:List Nat),vs=[.ref x,.ref r,.ref d,.int sd]/\SqT K H x [.ref e,.ref c0,.ref s0,.int n0]/\SqT K H e (es.map V.str)/\SqT K H c0 (cs.map V.str)/\SqT K H s0 (ds.map V.ref)/\StepsAt K H ds dts/\walk es dts (0,[],[])=some (es.length,cs,pl)/\dts.length<=100/\SqT K H r (pr.map V.int)/\(∀ z ∈ es,Good z)/\(∀ z ∈ cs,Good z)/\es.length<=40/\cs.length<=40/\pr.length=7 ∧
 H d=some (DP P w d ys)/\KeysAt H ys/\(∀ i j,i<=es.length->j<=cs.length->valP ys (kp i j)=some (.int (R i j)))/\Rest (fun i st=>price es i pr st) es.length cs.length (ways es cs) R ∧
 ∀ (H':Hp) (y u t:Addr) (c:Int) (ts:List Addr) (sts:List Sk) (us:List Addr) (rows:List (List Int)),Same H H'->SqT K H' y [.int c,.ref u,.ref t]->SqT K H' u (ts.map V.ref)->StepsAt K H' ts sts->sts.length<=1000->RowsAt K H' t us rows->rows.length<=1000->Q (.ref y) H'
theorem scPaper:FnScope ["pair","prices","rest","seed","left","price","steps","table","wide","tall","way"] ["pair","prices","rest","seed"] (defScope sPaper):=⟨rfl,rfl,rfl,by decide +kernel,rfl,by decide +kernel,by decide +kernel⟩
theorem nd_iwr:(["i","wide","rest"]:List Str).Nodup:=by decide +kernel
theorem nd_jri:(["j","rest","i"]:List Str).Nodup:=by decide +kernel
theorem ok_paper {f gTo gTb gMd gLa gSs gTs:Addr} {fd dTo dTb dMd dLa dSs dTs:FuncData} (F:Fun K "_law_paper" "_law_paper" sPaper f fd) (DTo:Dfn K mg "_law_told" sLTold gTo dTo ["elder","copy","prices","rest"]) (GTo:FnOk P w K mg base CX0 8 gTo dTo ["elder","copy","prices","rest"] (spLTold P w K)) (DTb:Dfn K mg "_law_table" sLTab gTb dTb ["elder","copy","prices"]) (GTb:FnOk P w K mg base CX0 8 gTb dTb ["elder","copy","prices"] (spLTab K)) (DMd:Dfn K mg "_law_made" sMade gMd dMd ["elder","steps","prices"]) (GMd:FnOk P w K mg base CX0 8 gMd dMd ["elder","steps","prices"] (spMade K)) (DLa:Dfn K mg "_law_last" sLast gLa dLa ["table","price"]) (GLa:FnOk P w K mg base CX0 8 gLa dLa ["table","price"] (spLast K))
  (DSs:Dfn K mg "_law_steps_spoilt" sSSp gSs dSs ["steps","way","seed","left"]) (GSs:FnOk P w K mg base CX0 8 gSs dSs ["steps","way","seed","left"] (spSSp K)) (DTs:Dfn K mg "_law_table_spoilt" sTSp gTs dTs ["table","way","left"]) (GTs:FnOk P w K mg base CX0 8 gTs dTs ["table","way","left"] (spTSp K)) (mlen:mg "len" = none) (mrange:mg "range" = none) (mtup:mg "tuple" = none):FnOk P w K mg base CX0 9 f fd ["pair","prices","rest","seed"] (spPaper P w K):=by
 refine F.ok scPaper (fun vs H Q E h=>?_) (fun cdv A outer s H vs Q E hr h=>?_)
 ·obtain ⟨x,r,d,e,c0,s0,sd,n0,es,cs,pr,ys,R,ds,dts,pl,rfl,_⟩:=h
  rfl
 ·obtain ⟨x,r0,d,e,c0,s0,sd,n0,es,cs,pr,ys,R,ds,dts,pl,rfl,hx,he,hc,hs,hds,hwk,hdl,hpr,hge,hgc,hel,hcl,h7,hd,hkk,hval,hR,q⟩:=h
  refine ⟨_,pss_cons (ps_set (i:=4) scPaper.nd rfl (Or.inl rfl) (pe_ix ix_tup (pv 0) pe_int (fun _ _=>rfl)))
   (pss_cons (ps_set (i:=5) scPaper.nd rfl (Or.inl rfl) (pe_datP rfl rfl hr.units (pv 2) (pe_tup (pa_cons pe_int (pa_cons pe_int pa_nil))) (fun _ _=>rfl)))
   (pss_cons (ps_set (i:=6) scPaper.nd rfl (Or.inl rfl) (pe_call GTo hr (by rfl) DTo.at_ DTo.fn.kp DTo.bn .nil pass0 (pa_cons (pe_ix ix_tup (pv 0) pe_int (fun _ _=>rfl)) (pa_cons (pe_ix ix_tup (pv 0) pe_int (fun _ _=>rfl)) (pa_cons (pv 1) (pa_cons (pv 2) pa_nil))))))
   (pss_cons (ps_set (i:=7) scPaper.nd rfl (Or.inl rfl) (pe_call GTb hr (by rfl) DTb.at_ DTb.fn.kp DTb.bn .nil pass0 (pa_cons (pe_ix ix_tup (pv 0) pe_int (fun _ _=>rfl)) (pa_cons (pe_ix ix_tup (pv 0) pe_int (fun _ _=>rfl)) (pa_cons (pv 1) pa_nil)))))
   (pss_cons (ps_mid (ps_if (pt_cmpR op_eq (pe_op op_mod (pv 4) pe_int) pe_int (nomark _)) (pss_cons (ps_set (i:=6) scPaper.nd rfl (Or.inl rfl) (pe_ix ix_tup (pv 0) pe_int (fun _ _=>rfl)))
   (pss_one (ps_set (i:=5) scPaper.nd rfl (Or.inl rfl) (pe_ix ix_tup (pe_call GMd hr (by rfl) DMd.at_ DMd.fn.kp DMd.bn .nil pass0 (pa_cons (pe_ix ix_tup (pv 0) pe_int (fun _ _=>rfl)) (pa_cons (pv 6) (pa_cons (pv 1) pa_nil)))) pe_int (fun _ _=>rfl))))) pss_nil))
   (pss_cons (ps_mid (ps_if (pt_cmpR op_eq (pe_op op_mod (pe_op op_fdiv (pv 4) pe_int) pe_int) pe_int (nomark _)) (pss_cons (ps_set (i:=8) scPaper.nd rfl (Or.inr rfl) (pe_op op_add (pe_callB call_len_seq (by rfl) mlen PySem.boot_len (pa_cons (pe_ix ix_tup (pv 0) pe_int (fun _ _=>rfl)) pa_nil)) pe_int))
   (pss_cons (ps_set (i:=9) scPaper.nd rfl (Or.inl rfl) (pe_op op_add (pe_callB call_len_seq (by rfl) mlen PySem.boot_len (pa_cons (pe_ix ix_tup (pv 0) pe_int (fun _ _=>rfl)) pa_nil)) pe_int))
   (pss_one (ps_set (i:=7) scPaper.nd rfl (Or.inl rfl) (pe_callTy call_tuple_of (by rfl) mtup boot_tuple (pa_cons (pe_compC (Nc:=["i","wide","rest"]) (mp:=[none,some 8,some 2]) (x0 := "i") rfl (CompOkC.of (fun _ _=>rfl) (fun _=>rfl) (by rfl)) (pi_range1 (by rfl) mrange (pa_cons (pv 9) pa_nil)) (fun c0 cl C s H fp=>⟨pg_name (i:=0) nd_iwr rfl (Or.inr rfl) (Or.inl (beq_self_eq_true _)),pts_nil,(pe_callTy (call_tuple_ofK (K:=K) rfl) (by rfl) mtup boot_tuple (pa_cons (pe_comp (Nc:=["j","rest","i"]) (mp:=[none,some 2,some 0]) rfl (CompOk.of (by rfl)) (pi_range1 (by rfl) mrange (pa_cons (pv 1) pa_nil)) (fun cl C s H fp=>⟨pg_name (i:=0) nd_jri rfl (Or.inl rfl),pts_nil,(pe_op op_sub (pe_datP rfl rfl hr.units (pv 1) (pe_tup (pa_cons pe_int (pa_cons pe_int pa_nil))) (fun _ _=>rfl)) (pe_datP rfl rfl hr.units (pv 1) (pe_tup (pa_cons (pv 2) (pa_cons (pv 0) pa_nil))) (fun _ _=>rfl)))⟩)) pa_nil))⟩)) pa_nil)))))) pss_nil))
   (pss_cons (ps_mid (ps_if (pt_cmpR op_eq (pe_op op_mod (pe_op op_fdiv (pv 4) pe_int) pe_int) pe_int (nomark _)) (pss_one (ps_set (i:=7) scPaper.nd rfl (Or.inl rfl) (pe_call GLa hr (by rfl) DLa.at_ DLa.fn.kp DLa.bn .nil pass0 (pa_cons (pv 7) (pa_cons (pv 5) pa_nil))))) pss_nil))
   (pss_cons (ps_set (i:=10) scPaper.nd rfl (Or.inl rfl) (pe_op op_mod (pe_op op_fdiv (pv 4) pe_int) pe_int))
   (pss_cons (ps_mid (ps_if (PW.pt (pw_or (pt_cmpR op_eq (pv 10) pe_int (nomark _)) (pw_or1 (pt_cmpR op_eq (pv 10) pe_int (nomark _))))) (pss_cons (ps_set (i:=5) scPaper.nd rfl (Or.inl rfl) (pe_op op_sub (pe_op op_add (pv 5) pe_int) (pe_op op_mul pe_int (pv 10))))
   (pss_one (ps_set (i:=7) scPaper.nd rfl (Or.inl rfl) (pe_call GLa hr (by rfl) DLa.at_ DLa.fn.kp DLa.bn .nil pass0 (pa_cons (pv 7) (pa_cons (pv 5) pa_nil)))))) pss_nil))
   (pss_cons (ps_set (i:=6) scPaper.nd rfl (Or.inl rfl) (pe_call GSs hr (by rfl) DSs.at_ DSs.fn.kp DSs.bn .nil pass0 (pa_cons (pv 6) (pa_cons (pv 10) (pa_cons (pv 3) (pa_cons (pe_op op_fdiv (pv 4) pe_int) pa_nil))))))
   (pss_one (ps_ret (pe_tup (pa_cons (pv 5) (pa_cons (pv 6) (pa_cons (pe_call GTs hr (by rfl) DTs.at_ DTs.fn.kp DTs.bn .nil pass0 (pa_cons (pv 7) (pa_cons (pv 10) (pa_cons (pe_op op_fdiv (pv 4) pe_int) pa_nil)))) pa_nil))))))))))))))),?_⟩
  have hle:(es.map V.str).length=es.length:=List.length_map ..
  have hlc:(cs.map V.str).length=cs.length:=List.length_map ..
  have hlm:lmade es pr dts=some (cs,cost es pr pl dts):=by
   unfold lmade
   rw [hwk,Option.bind_some,if_neg (Nat.lt_irrefl _)]
  refine ⟨_,rfl,x,_,_,_,rfl,rfl,hx,rfl,?_⟩
  refine ⟨_,rfl,few (by show 2<=_;omega),fun t5 ht5=>?_⟩
  have T5:=same_upd (o:=.tup [V.int 0,.int 0]) ht5
  refine ⟨d,ys,kp 0 0,t5,.int (R 0 0),rfl,rfl,T5 _ _ hd,(fun y hy=>T5 _ _ (hkk y hy)),upd_same,hval 0 0 (Nat.zero_le _) (Nat.zero_le _),?_⟩
  generalize upd H t5 (.tup [V.int 0,.int 0])=H5 at T5
  refine ⟨_,rfl,x,_,_,_,rfl,rfl,sameT T5 hx,rfl,_,rfl,x,_,_,_,rfl,rfl,sameT T5 hx,rfl,_,rfl,_,rfl,e,c0,r0,d,es,cs,pr,ys,R,rfl,sameT T5 he,sameT T5 hc,sameT T5 hpr,hge,hgc,hel,hcl,h7,T5 _ _ hd,(fun y hy=>T5 _ _ (hkk y hy)),hval,hR,fun H6 u0 ts0 sts0 S6 hu0 hT0 hto hsl0=>?_⟩
  have S06:=T5.trans S6
  refine ⟨_,rfl,x,_,_,_,rfl,rfl,sameT S06 hx,rfl,_,rfl,x,_,_,_,rfl,rfl,sameT S06 hx,rfl,_,rfl,e,c0,r0,es,cs,pr,rfl,sameT S06 he,sameT S06 hc,sameT S06 hpr,hge,hgc,hel,hcl,h7,fun H7 t0 ps G S7 hN hG=>?_⟩
  have S07:=S06.trans S7
  have PS7:PpS K H7 u0:=⟨ts0,sts0,SqT.of (S7 _ _ hu0),(hT0.mono S7).at,by omega⟩
  have PT7:PpT K H7 es.length cs.length t0:=⟨ps,_,nums_rows hN,rowsOf_shp ..⟩
  -- the drawn steps
  refine ⟨fun σ' H'=>∃ (c:Int) (u t:Addr) (v8 v9:Option V),σ'=[some (.ref x),some (.ref r0),some (.ref d),some (.int sd),some (.int n0),some (.int c),some (.ref u),some (.ref t),v8,v9,none]/\Same H H'/\PpS K H' u/\PpT K H' es.length cs.length t,?_,?_⟩
  ·refine ⟨_,rfl,_,_,rfl,rfl,(by show (0:Int) < 3;decide),rfl,_,rfl,ite2 (fun _=>?_) (fun _=>⟨_,u0,t0,none,none,rfl,S07,PS7,PT7⟩)⟩
   refine ⟨_,rfl,x,_,_,_,rfl,rfl,sameT S07 hx,rfl,?_⟩
   refine ⟨_,rfl,x,_,_,_,rfl,rfl,sameT S07 hx,rfl,_,rfl,_,rfl,e,s0,r0,es,ds,dts,pr,rfl,sameT S07 he,hge,sameT S07 hs,hds.mono S07,by omega,sameT S07 hpr,h7,?_⟩
   rw [hlm]
   intro H8 y z S8 hz hy
   exact ⟨y,_,_,_,rfl,rfl,SqT.of hy,rfl,_,s0,t0,none,none,rfl,S07.trans S8,⟨ds,dts,sameT (S07.trans S8) hs,hds.mono (S07.trans S8),hdl⟩,PT7.mono S8⟩
  rintro σ' H8 ⟨c,u,t,v8,v9,rfl,S8,hPs,hPt⟩
  -- the other table
  refine ⟨fun σ' H'=>∃ (c:Int) (u t:Addr) (v8 v9:Option V),σ'=[some (.ref x),some (.ref r0),some (.ref d),some (.int sd),some (.int n0),some (.int c),some (.ref u),some (.ref t),v8,v9,none]/\Same H H'/\PpS K H' u/\PpT K H' es.length cs.length t,?_,?_⟩
  ·refine ⟨_,rfl,_,_,rfl,rfl,⟨by decide,by decide⟩,_,_,rfl,rfl,(by show (0:Int) < 2;decide),rfl,_,rfl,ite2 (fun _=>?_) (fun _=>⟨c,u,t,v8,v9,rfl,S8,hPs,hPt⟩)⟩
   refine ⟨_,rfl,x,_,_,_,rfl,rfl,sameT S8 hx,rfl,c0,_,rfl,.inr (sameT S8 hc),_,_,rfl,rfl,?_⟩
   refine ⟨_,rfl,x,_,_,_,rfl,rfl,sameT S8 hx,rfl,e,_,rfl,.inr (sameT S8 he),_,_,rfl,rfl,?_⟩
   rw [hlc,hle]
   refine ⟨_,rfl,_,rfl,by omega,by omega,?_⟩
   rw [show ((es.length:Int)+1).toNat=es.length+1 by omega]
   refine comp_grow (as:=List.range (es.length+1)) (v:=fun k=>.int (0+((k:Nat):Int))) (fun i acc H'=>∃ ps:List Addr,acc=ps.map V.ref/\ps.length=i/\(∀ j y,ps[j]?=some y->H' y=some (.tup ((List.range (cs.length+1)).map fun b=>V.int (R 0 0 - R j b))))/\Same H8 H')
    (fun i acc H' _ _=>src_range 0 (es.length+1) H') (by rw [List.length_range];exact few (by omega)) ⟨[],rfl,rfl,(fun j y z=>by simp at z),Same.refl _⟩ (fun i acc H' ⟨ps,e,hl,_⟩=>by rw [e,List.length_map,hl]) ?_ ?_
   ·rintro i k acc H' hk' ⟨ps,rfl,hpl,hrow,S⟩ kk hkk2
    have hki:k=i:=by
     obtain ⟨h1,h2⟩:=List.getElem?_eq_some_iff.mp hk'
     rw [List.getElem_range] at h2
     exact h2.symm
    subst hki
    have hkm:k<=es.length:=by have:=List.mem_range.mp (List.mem_of_getElem? hk');omega
    have ei:(0:Int)+((k:Nat):Int)=((k:Nat):Int):=by omega
    rw [ei]
    refine ⟨_,rfl,_,rfl,by omega,by omega,?_⟩
    rw [show ((cs.length:Int)+1).toNat=cs.length+1 by omega]
    refine comp_grow (as:=List.range (cs.length+1)) (v:=fun k=>.int (0+((k:Nat):Int))) (fun j acc H''=>acc=(List.range j).map (fun b=>V.int (R 0 0 - R k b))/\Same H' H'')
     (fun i acc H'' _ _=>src_range 0 (cs.length+1) H'') (by rw [List.length_range];exact few (by omega)) ⟨rfl,Same.refl _⟩ (fun i acc H'' ⟨e,_⟩=>by rw [e,List.length_map,List.length_range]) ?_ ?_
    ·rintro j k2 acc H'' hk2 ⟨rfl,S'⟩ kk2 hkk3
     have hkj:k2=j:=by
      obtain ⟨h1,h2⟩:=List.getElem?_eq_some_iff.mp hk2
      rw [List.getElem_range] at h2
      exact h2.symm
     subst hkj
     have hkn:k2<=cs.length:=by have:=List.mem_range.mp (List.mem_of_getElem? hk2);omega
     have ej:(0:Int)+((k2:Nat):Int)=((k2:Nat):Int):=by omega
     rw [ej]
     refine ⟨_,rfl,few (by show 2<=_;omega),fun b0 hb0=>?_⟩
     have T0:=same_upd (o:=.tup [V.int 0,.int 0]) hb0
     have S0:=((S8.trans S).trans S').trans T0
     refine ⟨d,ys,kp 0 0,b0,.int (R 0 0),rfl,rfl,S0 _ _ hd,(fun y hy=>S0 _ _ (hkk y hy)),upd_same,hval 0 0 (Nat.zero_le _) (Nat.zero_le _),?_⟩
     refine ⟨_,rfl,_,rfl,_,rfl,few (by show 2<=_;omega),fun bt hbt=>?_⟩
     have Tt:=same_upd (o:=.tup [V.int ((k:Nat):Int),.int ((k2:Nat):Int)]) hbt
     have S'':=S0.trans Tt
     refine ⟨d,ys,kp k k2,bt,.int (R k k2),rfl,rfl,S'' _ _ hd,(fun y hy=>S'' _ _ (hkk y hy)),upd_same,hval k k2 hkm hkn,_,_,rfl,rfl,hkk3 _ _ ⟨?_,(S'.trans T0).trans Tt⟩⟩
     rw [List.range_succ,List.map_append]
     rfl
    ·rintro acc H'' ⟨rfl,S'⟩ D hD
     have SD:=same_upd (o:=.lst ((List.range (cs.length+1)).map fun b=>V.int (R 0 0 - R k b))) hD
     rw [List.length_range]
     refine ⟨D,_,rfl,.inl ⟨SqL.of upd_same,fun t ht=>?_⟩⟩
     have St:=same_upd (o:=.tup ((List.range (cs.length+1)).map fun b=>V.int (R 0 0 - R k b))) ht
     refine hkk2 _ _ ⟨ps++[t],by rw [List.map_append];rfl,by rw [List.length_append,hpl];rfl,fun j y hy=>?_,((S.trans S').trans SD).trans St⟩
     by_cases hjl:j < ps.length
     ·rw [List.getElem?_append_left hjl] at hy
      exact St _ _ (SD _ _ (S' _ _ (hrow j y hy)))
     ·rw [List.getElem?_append_right (by omega)] at hy
      have hj0:j - ps.length=0:=by
       have:=(List.getElem?_eq_some_iff.mp hy).1
       simp at this
       omega
      rw [hj0] at hy
      simp at hy
      have:j=k:=by omega
      rw [<-hy,upd_same,this]
   rintro acc H' ⟨qs,rfl,hql,hrow,S⟩ D hD
   have SD:=same_upd (o:=.lst (qs.map V.ref)) hD
   refine ⟨D,_,rfl,.inl ⟨SqL.of upd_same,fun t2 ht2=>?_⟩⟩
   have St:=same_upd (o:=.tup (qs.map V.ref)) ht2
   rw [List.length_range] at hql
   have hN2:NumsAt (upd (upd H' D (.lst (qs.map V.ref))) t2 (.tup (qs.map V.ref))) t2 qs es.length cs.length (fun i j=>R 0 0 - R i j):=⟨upd_same,hql,fun i y e=>St _ _ (SD _ _ (hrow i y e))⟩
   exact ⟨c,u,t2,_,_,rfl,((S8.trans S).trans SD).trans St,hPs.mono ((S.trans SD).trans St),⟨qs,_,nums_rows hN2,rowsOf_shp ..⟩⟩
  rintro σ' H9 ⟨c,u,t,v8,v9,rfl,S9,hPs,hPt⟩
  -- the price as the last number
  refine ⟨fun σ' H'=>∃ (c:Int) (u t:Addr) (v8 v9:Option V),σ'=[some (.ref x),some (.ref r0),some (.ref d),some (.int sd),some (.int n0),some (.int c),some (.ref u),some (.ref t),v8,v9,none]/\Same H H'/\PpS K H' u/\PpT K H' es.length cs.length t,?_,?_⟩
  ·refine ⟨_,rfl,_,_,rfl,rfl,⟨by decide,by decide⟩,_,_,rfl,rfl,(by show (0:Int) < 4;decide),rfl,_,rfl,ite2 (fun _=>?_) (fun _=>⟨c,u,t,v8,v9,rfl,S9,hPs,hPt⟩)⟩
   obtain ⟨us,rows,hT,hS⟩:=hPt
   exact ⟨_,rfl,_,rfl,t,us,rows,c,es.length,cs.length,rfl,hT,hS,by omega,by omega,fun H10 t' us' rows' S10 hT' hS'=>⟨c,u,t',v8,v9,rfl,S9.trans S10,hPs.mono S10,⟨us',rows',hT',hS'⟩⟩⟩
  rintro σ' H10 ⟨c,u,t,v8,v9,rfl,S10,hPs,hPt⟩
  refine ⟨_,rfl,_,_,rfl,rfl,⟨by decide,by decide⟩,_,_,rfl,rfl,(by show (0:Int) < 14;decide),?_⟩
  show gName 10 (V.int (n0 / 24 % 14)) _ _ _
  generalize n0 / 24 % 14=wy
  -- another price
  refine ⟨fun σ' H'=>∃ (c:Int) (u t:Addr) (v8 v9:Option V),σ'=[some (.ref x),some (.ref r0),some (.ref d),some (.int sd),some (.int n0),some (.int c),some (.ref u),some (.ref t),v8,v9,some (.int wy)]/\Same H H'/\PpS K H' u/\PpT K H' es.length cs.length t,?_,?_⟩
  ·refine ⟨_,rfl,rfl,_,rfl,ite2 (fun _=>iteT ?_) (fun _=>⟨_,rfl,rfl,_,rfl,ite2 (fun _=>?_) (fun _=>⟨c,u,t,v8,v9,rfl,S10,hPs,hPt⟩)⟩)⟩
   ·obtain ⟨us,rows,hT,hS⟩:=hPt
    exact ⟨_,rfl,_,_,rfl,rfl,_,rfl,_,_,rfl,rfl,.inl ⟨by decide,by decide⟩,_,_,rfl,rfl,_,rfl,_,rfl,t,us,rows,_,es.length,cs.length,rfl,hT,hS,by omega,by omega,fun H11 t' us' rows' S11 hT' hS'=>⟨_,u,t',v8,v9,rfl,S10.trans S11,hPs.mono S11,⟨us',rows',hT',hS'⟩⟩⟩
   ·obtain ⟨us,rows,hT,hS⟩:=hPt
    exact ⟨_,rfl,_,_,rfl,rfl,_,rfl,_,_,rfl,rfl,.inl ⟨by decide,by decide⟩,_,_,rfl,rfl,_,rfl,_,rfl,t,us,rows,_,es.length,cs.length,rfl,hT,hS,by omega,by omega,fun H11 t' us' rows' S11 hT' hS'=>⟨_,u,t',v8,v9,rfl,S10.trans S11,hPs.mono S11,⟨us',rows',hT',hS'⟩⟩⟩
  rintro σ' H11 ⟨c,u,t,v8,v9,rfl,S11,⟨ts,sts,hu,hst,hsl⟩,⟨us,rows,hT,hS⟩⟩
  refine ⟨_,rfl,_,rfl,_,rfl,_,rfl,_,_,rfl,rfl,⟨by decide,by decide⟩,u,_,_,_,ts,sts,rfl,hu,hst,by omega,fun H12 u' ts' sts' S12 hu' hst' hsl'=>?_⟩
  refine ⟨_,rfl,_,rfl,_,rfl,_,rfl,_,rfl,_,_,rfl,rfl,⟨by decide,by decide⟩,t,us,rows,_,_,es.length,cs.length,rfl,hT.mono S12,hS,by omega,by omega,fun H13 t' us' rows' S13 hT' hrl'=>⟨few (by show 3<=_;omega),fun y hy=>?_⟩⟩
  have Sy:=same_upd (o:=.tup [V.int c,.ref u',.ref t']) hy
  exact q _ y u' t' c ts' sts' us' rows' (((S11.trans S12).trans S13).trans Sy) (SqT.of upd_same) (sameT (S13.trans Sy) hu') (hst'.mono (S13.trans Sy)) hsl' (hT'.mono Sy) hrl'
def spLaw (K:PySem.W.Frag):Sp:=fun vs H Q _=>∃ (a:Addr) (ns:List Int),vs=[.ref a]/\SqL K H a (ns.map V.int)/\ns.length<=63/\(∀ m ∈ ns,Builtin.Int.intBits m<=1048576)/\∀ H',Q (.bl true) H'
theorem scLaw:FnScope ["script","prices","seed","pair","rest","paper","found"] ["script"] (defScope sLaw):=⟨rfl,rfl,rfl,by decide +kernel,rfl,by decide +kernel,by decide +kernel⟩
theorem stAt_ok {K:PySem.W.Frag} {H:Hp} {ts:List Addr} {sts:List Sk} (h:StepsAt K H ts sts):∀ st ∈ sts,okS st:=fun st hm=>by
 obtain ⟨i,hi⟩:=List.mem_iff_getElem?.mp hm
 have hl:i < ts.length:=by rw [h.len];exact (List.getElem?_eq_some_iff.mp hi).1
 exact (h.item i _ st (List.getElem?_eq_getElem hl) hi).2
theorem ok_law {f gC gPr gSr gMP gRs gPp gSd gLs:Addr} {fd dC dPr dSr dMP dRs dPp dSd dLs:FuncData} (F:Fun K "law" "law" sLaw f fd) (DC:Dfn K mg "_law_cell_at" sCell gC dC ["script","k"]) (GC:FnOk P w K mg base CX0 9 gC dC ["script","k"] (spCell K)) (DPr:Dfn K mg "_law_prices" sPrices gPr dPr ["cell"]) (GPr:FnOk P w K mg base CX0 9 gPr dPr ["cell"] spPrices) (DSr:Dfn K mg "_law_stir" sStir gSr dSr ["cell"]) (GSr:FnOk P w K mg base CX0 9 gSr dSr ["cell"] spStir) (DMP:Dfn K mg "_law_made_pairs" sMP gMP dMP ["script","many"]) (GMP:FnOk P w K mg base CX0 9 gMP dMP ["script","many"] (spMP K)) (DRs:Dfn K mg "_law_rest" sLRest gRs dRs ["elder","copy","prices"]) (GRs:FnOk P w K mg base CX0 9 gRs dRs ["elder","copy","prices"] (spLRest P w K)) (DPp:Dfn K mg "_law_paper" sPaper gPp dPp ["pair","prices","rest","seed"]) (GPp:FnOk P w K mg base CX0 9 gPp dPp ["pair","prices","rest","seed"] (spPaper P w K))
  (DSd:Dfn K mg "slips_stand" sStand gSd dSd ["elder","copy","prices","price","steps","table"]) (GSd:FnOk P w K mg base CX0 9 gSd dSd ["elder","copy","prices","price","steps","table"] (spStand K)) (DLs:Dfn K mg "_law_stands" sLSt gLs dLs ["elder","copy","prices","price","steps","table"]) (GLs:FnOk P w K mg base CX0 9 gLs dLs ["elder","copy","prices","price","steps","table"] (spLStd K)) (misi:mg "isinstance" = none) (mbool:mg "bool" = none):FnOk P w K mg base CX0 10 f fd ["script"] (spLaw K):=by
 refine F.ok scLaw (fun vs H Q E h=>?_) (fun cdv A outer s H vs Q E hr h=>?_)
 ·obtain ⟨a,ns,rfl,_⟩:=h
  rfl
 ·obtain ⟨a,ns,rfl,hS,hn,hb,q⟩:=h
  refine ⟨_,pss_cons (ps_set (i:=1) scLaw.nd rfl (Or.inl rfl) (pe_call GPr hr (by rfl) DPr.at_ DPr.fn.kp DPr.bn .nil pass0 (pa_cons (pe_call GC hr (by rfl) DC.at_ DC.fn.kp DC.bn .nil pass0 (pa_cons (pv 0) (pa_cons pe_int pa_nil))) pa_nil)))
   (pss_cons (ps_set (i:=2) scLaw.nd rfl (Or.inl rfl) (pe_call GSr hr (by rfl) DSr.at_ DSr.fn.kp DSr.bn .nil pass0 (pa_cons (pe_call GC hr (by rfl) DC.at_ DC.fn.kp DC.bn .nil pass0 (pa_cons (pv 0) (pa_cons pe_int pa_nil))) pa_nil)))
   (pss_cons (ps_for PassesOwn.never rfl (pi_list (pe_call GMP hr (by rfl) DMP.at_ DMP.fn.kp DMP.bn .nil pass0 (pa_cons (pv 0) (pa_cons pe_int pa_nil)))) (pg_name (i:=3) scLaw.nd rfl (Or.inl rfl))
   (pss_cons (ps_set (i:=4) scLaw.nd rfl (Or.inl rfl) (pe_call GRs hr (by rfl) DRs.at_ DRs.fn.kp DRs.bn .nil pass0 (pa_cons (pe_ix ix_tup (pv 3) pe_int (fun _ _=>rfl)) (pa_cons (pe_ix ix_tup (pv 3) pe_int (fun _ _=>rfl)) (pa_cons (pv 1) pa_nil)))))
   (pss_cons (ps_set (i:=5) scLaw.nd rfl (Or.inl rfl) (pe_call GPp hr (by rfl) DPp.at_ DPp.fn.kp DPp.bn .nil pass0 (pa_cons (pv 3) (pa_cons (pv 1) (pa_cons (pv 4) (pa_cons (pv 2) pa_nil))))))
   (pss_cons (ps_set (i:=6) scLaw.nd rfl (Or.inl rfl) (pe_call GSd hr (by rfl) DSd.at_ DSd.fn.kp DSd.bn .nil pass0 (pa_cons (pe_ix ix_tup (pv 3) pe_int (fun _ _=>rfl)) (pa_cons (pe_ix ix_tup (pv 3) pe_int (fun _ _=>rfl)) (pa_cons (pv 1) (pa_cons (pe_ix ix_tup (pv 5) pe_int (fun _ _=>rfl)) (pa_cons (pe_ix ix_tup (pv 5) pe_int (fun _ _=>rfl)) (pa_cons (pe_ix ix_tup (pv 5) pe_int (fun _ _=>rfl)) pa_nil))))))))
   (pss_cons (ps_if (pt_not (pt_val (pe_callB call_isi (by rfl) misi boot_isinstance (pa_cons (pv 6) (pa_cons (pe_bltn (v:=.ty "bool") (by rfl) mbool boot_bool rfl) pa_nil))))) (pss_one (ps_ret pe_bl)) pss_nil)
   (pss_cons (ps_if (pt_cmpR op_ne (pv 6) (pe_call GLs hr (by rfl) DLs.at_ DLs.fn.kp DLs.bn .nil pass0 (pa_cons (pe_ix ix_tup (pv 3) pe_int (fun _ _=>rfl)) (pa_cons (pe_ix ix_tup (pv 3) pe_int (fun _ _=>rfl)) (pa_cons (pv 1) (pa_cons (pe_ix ix_tup (pv 5) pe_int (fun _ _=>rfl)) (pa_cons (pe_ix ix_tup (pv 5) pe_int (fun _ _=>rfl)) (pa_cons (pe_ix ix_tup (pv 5) pe_int (fun _ _=>rfl)) pa_nil))))))) (nomark _)) (pss_one (ps_ret pe_bl)) pss_nil)
   (pss_one (ps_if (PW.pt (pw_and (pt_val (pv 6)) (pw_and1 (pt_cmpR op_ne (pe_ix ix_tup (pv 5) pe_int (fun _ _=>rfl)) (pe_datP rfl rfl hr.units (pv 4) (pe_tup (pa_cons pe_int (pa_cons pe_int pa_nil))) (fun _ _=>rfl)) (nomark _))))) (pss_one (ps_ret pe_bl)) pss_nil))))))))
   (pss_one (ps_ret pe_bl)))),?_⟩
  refine ⟨_,rfl,a,ns,1,rfl,hS,by decide,_,rfl,bits_cell hb 1,fun H1 r0 pr S1 hpr h7 _=>?_⟩
  refine ⟨_,rfl,a,ns,0,rfl,S1.seq hS,by decide,_,rfl,bits_cell hb 0,fun sd=>?_⟩
  refine ⟨_,rfl,a,ns,4,rfl,S1.seq hS,hb,hn,rfl,fun H2 lp xs S2 hlp hP hxl=>?_⟩
  refine ⟨lp,rfl,⟨_,SqL.of hlp⟩,for_list (K:=K) (a:=lp) (xs:=xs.map V.ref) (fun i σ H3=>∃ v3 v4 v5 v6:Option V,σ=[some (.ref a),some (.ref r0),some (.int sd),v3,v4,v5,v6]/\Same H2 H3) ⟨none,none,none,none,rfl,Same.refl _⟩ (fun i σ H3 _ ⟨_,_,_,_,_,S⟩=>SqL.of (S _ _ hlp)) ?_ ?_⟩
  ·rintro k y σ H3 hk ⟨v3,v4,v5,v6,rfl,S3⟩
   obtain ⟨x,hxk,rfl⟩:=ref_at hk
   obtain ⟨e,c,s0,n,es,cs,ss,hx,he,hc,hs,⟨ds,dts,pl,rfl,hD,hwk⟩,ge,gc,le,lc,ls⟩:=(hP x (List.mem_of_getElem? hxk)).mono S3
   have hpr3:=SqT.of (K:=K) ((S2.trans S3) _ _ hpr)
   have hX:SqT K H3 x [.ref e,.ref c,.ref s0,.int n]:=SqT.of hx
   have hE:SqT K H3 e (es.map V.str):=SqT.of he
   have hC:SqT K H3 c (cs.map V.str):=SqT.of hc
   have hdl:dts.length<=63:=by rw [<-hD.len];rw [List.length_map] at ls;exact ls
   refine ⟨_,rfl,x,_,_,_,rfl,rfl,hX,rfl,_,rfl,x,_,_,_,rfl,rfl,hX,rfl,_,rfl,e,c,r0,es,cs,pr,rfl,hE,hC,hpr3,ge,gc,le,lc,h7,fun H4 d ys R S4 hd hkk hval hR=>?_⟩
   refine ⟨_,rfl,_,rfl,_,rfl,_,rfl,x,r0,d,e,c,s0,sd,n,es,cs,pr,ys,R,ds,dts,pl,rfl,sameT S4 hX,sameT S4 hE,sameT S4 hC,SqT.of (S4 _ _ hs),(hD.mono S4).at,hwk,by omega,sameT S4 hpr3,ge,gc,le,lc,h7,hd,hkk,hval,hR,fun H5 y u t cc ts sts us rows S5 hy hu hst hsl hT hrl=>?_⟩
   have S45:=S4.trans S5
   refine ⟨_,rfl,x,_,_,_,rfl,rfl,sameT S45 hX,rfl,_,rfl,x,_,_,_,rfl,rfl,sameT S45 hX,rfl,_,rfl,_,rfl,y,_,_,_,rfl,rfl,hy,rfl,_,rfl,y,_,_,_,rfl,rfl,hy,rfl,_,rfl,y,_,_,_,rfl,rfl,hy,rfl,e,c,r0,u,t,es,cs,pr,cc,ts,sts,us,rows,rfl,sameT S45 hE,sameT S45 hC,sameT S45 hpr3,ge,gc,by omega,by omega,h7,hu,hst,hsl,hT,hrl,fun H6 S6=>?_⟩
   refine ⟨_,rfl,_,_,_,_,rfl,.bl _,kit_same _,_,rfl,iteF ?_⟩
   have S46:=S45.trans S6
   have hy6:=sameT S6 hy
   refine ⟨_,rfl,_,rfl,x,_,_,_,rfl,rfl,sameT S46 hX,rfl,_,rfl,x,_,_,_,rfl,rfl,sameT S46 hX,rfl,_,rfl,_,rfl,y,_,_,_,rfl,rfl,hy6,rfl,_,rfl,y,_,_,_,rfl,rfl,hy6,rfl,_,rfl,y,_,_,_,rfl,rfl,hy6,rfl,e,c,r0,u,t,es,cs,pr,cc,ts,sts,us,rows,rfl,sameT S46 hE,sameT S46 hC,sameT S46 hpr3,ge,gc,by omega,by omega,h7,sameT S6 hu,hst.mono S6,hsl,hT.mono S6,hrl,fun H7 S7=>?_⟩
   refine ⟨rfl,_,rfl,iteNS rfl ?_⟩
   have S47:=S46.trans S7
   have S57:=(S5.trans S6).trans S7
   cases hsb:standB es cs pr cc sts rows with
   | false=>exact ⟨_,rfl,_,rfl,iteF (iteF ⟨_,_,_,_,rfl,S3.trans S47⟩)⟩
   | true=>
    have ec:=stands_least hR (stAt_ok hst) hsb
    refine ⟨_,rfl,_,rfl,iteT ⟨_,rfl,y,_,_,_,rfl,rfl,sameT S7 hy6,rfl,_,rfl,few (by show 2<=_;omega),fun t8 ht8=>?_⟩⟩
    have T8:=same_upd (o:=.tup [V.int 0,.int 0]) ht8
    have S58:=S57.trans T8
    refine ⟨d,ys,kp 0 0,t8,.int (R 0 0),rfl,rfl,S58 _ _ hd,(fun y hy=>S58 _ _ (hkk y hy)),upd_same,hval 0 0 (Nat.zero_le _) (Nat.zero_le _),?_⟩
    exact ⟨rfl,_,rfl,iteNS (by rw [ec]) ⟨_,_,_,_,rfl,(S3.trans S47).trans T8⟩⟩
  ·rintro σ H3 ⟨v3,v4,v5,v6,rfl,S3⟩
   exact q _
theorem ok_all {f gLooks gSkF gFits gWd gWw gAfter gWalk gCopy gPrice gCost gSwW gSkL gWays gStS gShape gKnS gTbS gStand gCell gStir gNext gWord gPrices gEye gSlip gPair gMP gLSteps gLAlk gLPrice gEnd gArms gKnots gLRest gLTold gLTab gDoes gMade gLBd gLSt gForm gChg gLast gSSp gTSp gPaper aD CN:Addr} {fd dLooks dSkF dFits dWd dWw dAfter dWalk dCopy dPrice dCost dSwW dSkL dWays dStS dShape dKnS dTbS dStand dCell dStir dNext dWord dPrices dEye dSlip dPair dMP dLSteps dLAlk dLPrice dEnd dArms dKnots dLRest dLTold dLTab dDoes dMade dLBd dLSt dForm dChg dLast dSSp dTSp dPaper:FuncData} {esD:Array DictEntry} {nD:Nat} (F:Fun K "law" "law" sLaw f fd)
  (DLooks:Dfn K mg "looks_alike" sLooks gLooks dLooks ["one","two"])
  (DSkF:Dfn K mg "skip_fits" sSkF gSkF dSkF ["elder","done","many"])
  (DFits:Dfn K mg "step_fits" sFits gFits dFits ["elder","done","last","step"])
  (DWd:Dfn K mg "words_done" sWd gWd dWd ["step"])
  (DWw:Dfn K mg "words_written" sWw gWw dWw ["elder","done","last","step"])
  (DAfter:Dfn K mg "step_after" sAfter gAfter dAfter ["elder","done","last","step"])
  (DWalk:Dfn K mg "steps_walked" sWalk gWalk dWalk ["elder","steps"])
  (DCopy:Dfn K mg "copy_made" sCopy gCopy dCopy ["elder","steps"])
  (DPrice:Dfn K mg "step_price" sPrice gPrice dPrice ["elder","done","step","prices"])
  (DCost:Dfn K mg "slips_price" sCost gCost dCost ["elder","steps","prices"])
  (DSwW:Dfn K mg "swap_writes" sSwW gSwW dSwW ["elder","copy","i","j"])
  (DSkL:Dfn K mg "skip_lengths" sSkL gSkL dSkL ["elder","i"])
  (DWays:Dfn K mg "knot_ways" sWays gWays dWays ["elder","copy","i","j"])
  (DStS:Dfn K mg "steps_stand" sStS gStS dStS ["elder","copy","prices","price","steps"])
  (DShape:Dfn K mg "has_shape" sShape gShape dShape ["elder","copy","table"])
  (DKnS:Dfn K mg "knot_stands" sKnS gKnS dKnS ["elder","copy","prices","table","i","j"])
  (DTbS:Dfn K mg "table_stands" sTbS gTbS dTbS ["elder","copy","prices","price","table"])
  (DStand:Dfn K mg "slips_stand" sStand gStand dStand ["elder","copy","prices","price","steps","table"])
  (DCell:Dfn K mg "_law_cell_at" sCell gCell dCell ["script","k"])
  (DStir:Dfn K mg "_law_stir" sStir gStir dStir ["cell"])
  (DNext:Dfn K mg "_law_next" sNext gNext dNext ["left"])
  (DWord:Dfn K mg "_law_word" sWord gWord dWord ["seed","code"])
  (DPrices:Dfn K mg "_law_prices" sPrices gPrices dPrices ["cell"])
  (DEye:Dfn K mg "_law_eye" sEye gEye dEye ["elder","left","seed","most"])
  (DSlip:Dfn K mg "_law_slip" sSlip gSlip dSlip ["elder","copy","steps","left","words"])
  (DPair:Dfn K mg "_law_pair" sPair gPair dPair ["cells","seed","most"])
  (DMP:Dfn K mg "_law_made_pairs" sMP gMP dMP ["script","many"])
  (DLSteps:Dfn K mg "_law_steps" sLSteps gLSteps dLSteps ["elder","copy","i","j"])
  (DLAlk:Dfn K mg "_law_alike" sLAlk gLAlk dLAlk ["one","two"])
  (DLPrice:Dfn K mg "_law_price" sLPrice gLPrice dLPrice ["elder","i","step","prices"])
  (DEnd:Dfn K mg "_law_end" sEnd gEnd dEnd ["i","j","step"])
  (DArms:Dfn K mg "_law_arms" sArms gArms dArms ["elder","copy","prices","i","j"])
  (DKnots:Dfn K mg "_law_knots" sKnots gKnots dKnots ["elder","copy"])
  (DLRest:Dfn K mg "_law_rest" sLRest gLRest dLRest ["elder","copy","prices"])
  (DLTold:Dfn K mg "_law_told" sLTold gLTold dLTold ["elder","copy","prices","rest"])
  (DLTab:Dfn K mg "_law_table" sLTab gLTab dLTab ["elder","copy","prices"])
  (DDoes:Dfn K mg "_law_does" sDoes gDoes dDoes ["elder","done","copy","step"])
  (DMade:Dfn K mg "_law_made" sMade gMade dMade ["elder","steps","prices"])
  (DLBd:Dfn K mg "_law_bounds" sLBd gLBd dLBd ["elder","copy","prices","table"])
  (DLSt:Dfn K mg "_law_stands" sLSt gLSt dLSt ["elder","copy","prices","price","steps","table"])
  (DForm:Dfn K mg "_law_form" sForm gForm dForm ["seed","left"])
  (DChg:Dfn K mg "_law_changed" sChg gChg dChg ["table","left","more"])
  (DLast:Dfn K mg "_law_last" sLast gLast dLast ["table","price"])
  (DSSp:Dfn K mg "_law_steps_spoilt" sSSp gSSp dSSp ["steps","way","seed","left"])
  (DTSp:Dfn K mg "_law_table_spoilt" sTSp gTSp dTSp ["table","way","left"])
  (DPaper:Dfn K mg "_law_paper" sPaper gPaper dPaper ["pair","prices","rest","seed"])
  (mall:mg "all" = none) (mlen:mg "len" = none) (mrange:mg "range" = none) (misi:mg "isinstance" = none) (mtup:mg "tuple" = none) (mint:mg "int" = none) (mbool:mg "bool" = none) (mmin:mg "min" = none) (mmax:mg "max" = none) (msum:mg "sum" = none) (mzip:mg "zip" = none) (mrev:mg "reversed" = none)
  {tk tw:Tok} (mLIKE:mg "LIKE" = some (.int 0 tk)) (mPP:mg "PRICE_PLACES" = some (.ref aD)) (mW:mg "MOST_WORDS" = some (.int 40 tw)) (mNoSlips:mg "NoSlips" = some (.ref CN)) (xC:VEx K CN) (hit:Hits K CN CN) (PL:Places w K aD esD nD) :
  FnOk P w K mg base CX0 10 f fd ["script"] (spLaw K):=by
 have GLooks:FnOk P w K mg base CX0 1 gLooks dLooks ["one","two"] spAlike:=ok_Looks DLooks.fn mlen mrange
 have GAfter:FnOk P w K mg base (CXv P w) 3 gAfter dAfter ["elder","done","last","step"] (spAfter K CN):=ok_after DAfter.fn DFits DSkF DWd DWw mNoSlips xC mlen
 have GWalk:FnOk P w K mg base (CXv P w) 4 gWalk dWalk ["elder","steps"] (spWalk K CN):=ok_walk DWalk.fn DAfter GAfter mNoSlips xC mlen mtup mW
 have GCopy:FnOk P w K mg base (CXv P w) 5 gCopy dCopy ["elder","steps"] (spCopy K CN):=ok_copy DCopy.fn DWalk GWalk
 have GPrice:FnOk P w K mg base CX0 2 gPrice dPrice ["elder","done","step","prices"] (spPrice K):=ok_price DPrice.fn DLooks GLooks mLIKE mPP PL
 have GCost:FnOk P w K mg base (CXv P w) 5 gCost dCost ["elder","steps","prices"] (spCost K CN):=ok_cost DCost.fn DWalk GWalk DPrice (GPrice.mono (by decide)) msum mzip
 have GWays:FnOk P w K mg base CX0 2 gWays dWays ["elder","copy","i","j"] (spWays K):=ok_ways DWays.fn DSwW DSkL mlen mrange
 have GStS:FnOk P w K mg base CX0 6 gStS dStS ["elder","copy","prices","price","steps"] (spStS K):=ok_sts DStS.fn DCopy GCopy DCost GCost mNoSlips hit
 have GKnS:FnOk P w K mg base CX0 3 gKnS dKnS ["elder","copy","prices","table","i","j"] (spKnS K):=ok_kns DKnS.fn DWays GWays DPrice GPrice
 have GTbS:FnOk P w K mg base CX0 6 gTbS dTbS ["elder","copy","prices","price","table"] (spTbS K):=(ok_tbs DTbS.fn DShape DKnS GKnS mlen mall mrange).mono (by decide)
 have GStand:FnOk P w K mg base CX0 7 gStand dStand ["elder","copy","prices","price","steps","table"] (spStand K):=ok_stand DStand.fn DStS GStS DTbS GTbS
 have GCell:FnOk P w K mg base CX0 9 gCell dCell ["script","k"] (spCell K):=(ok_cell DCell.fn mlen).mono (by decide)
 have GLSteps:FnOk P w K mg base CX0 2 gLSteps dLSteps ["elder","copy","i","j"] (spLSt K):=(ok_lst DLSteps.fn mlen mrange).mono (by decide)
 have GLAlk:FnOk P w K mg base CX0 1 gLAlk dLAlk ["one","two"] spAlike:=ok_lalk DLAlk.fn mlen mrange
 have GLPrice:FnOk P w K mg base CX0 2 gLPrice dLPrice ["elder","i","step","prices"] (spPrice K):=ok_lprice DLPrice.fn DLAlk GLAlk mint
 have GArms:FnOk P w K mg base CX0 3 gArms dArms ["elder","copy","prices","i","j"] (spArms K):=ok_arms DArms.fn DLSteps GLSteps DEnd DLPrice GLPrice
 have GKnots:FnOk P w K mg base CX0 3 gKnots dKnots ["elder","copy"] (spKnO K):=(ok_knO DKnots.fn mlen mrange).mono (by decide)
 have GLRest:FnOk P w K mg base CX0 9 gLRest dLRest ["elder","copy","prices"] (spLRest P w K):=(ok_lrest DLRest.fn DKnots GKnots DArms GArms mmin mrev).mono (by decide)
 have GLTold:FnOk P w K mg base CX0 8 gLTold dLTold ["elder","copy","prices","rest"] (spLTold P w K):=(ok_ltold DLTold.fn DArms GArms mlen mtup).mono (by decide)
 have GLTab:FnOk P w K mg base CX0 8 gLTab dLTab ["elder","copy","prices"] (spLTab K):=(ok_ltab DLTab.fn DKnots GKnots DArms GArms mlen mrange mtup mmin).mono (by decide)
 have GMade:FnOk P w K mg base CX0 4 gMade dMade ["elder","steps","prices"] (spMade K):=(ok_made DMade.fn DDoes DLPrice GLPrice mlen).mono (by decide)
 have GStir:FnOk P w K mg base CX0 9 gStir dStir ["cell"] spStir:=(ok_stir DStir.fn).mono (by decide)
 have GWord:FnOk P w K mg base CX0 2 gWord dWord ["seed","code"] spWord:=(ok_word DWord.fn mrange).mono (by decide)
 have GPrices:FnOk P w K mg base CX0 9 gPrices dPrices ["cell"] spPrices:=(ok_prices DPrices.fn DStir DNext mrange mtup).mono (by decide)
 have GPair:FnOk P w K mg base CX0 3 gPair dPair ["cells","seed","most"] (spPair K):=ok_pair DPair.fn DStir DEye DWord DSlip mlen mrange mmax mmin mtup
 have GMP:FnOk P w K mg base CX0 9 gMP dMP ["script","many"] (spMP K):=(ok_mp DMP.fn DCell DStir DNext DPair GPair mlen mrange).mono (by decide)
 have GLBd:FnOk P w K mg base CX0 4 gLBd dLBd ["elder","copy","prices","table"] (spLBd K):=ok_lbd DLBd.fn DKnots GKnots DArms GArms
 have GLSt:FnOk P w K mg base CX0 9 gLSt dLSt ["elder","copy","prices","price","steps","table"] (spLStd K):=(ok_lstd DLSt.fn DMade GMade DLBd GLBd mlen).mono (by decide)
 have GForm:FnOk P w K mg base CX0 3 gForm dForm ["seed","left"] (spForm K):=ok_form DForm.fn DWord GWord
 have GChg:FnOk P w K mg base CX0 4 gChg dChg ["table","left","more"] (spChg K):=(ok_chg DChg.fn mlen).mono (by decide)
 have GLast:FnOk P w K mg base CX0 8 gLast dLast ["table","price"] (spLast K):=(ok_last DLast.fn).mono (by decide)
 have GSSp:FnOk P w K mg base CX0 8 gSSp dSSp ["steps","way","seed","left"] (spSSp K):=(ok_ssp DSSp.fn DForm GForm mlen).mono (by decide)
 have GTSp:FnOk P w K mg base CX0 8 gTSp dTSp ["table","way","left"] (spTSp K):=(ok_tsp DTSp.fn DChg GChg mlen mrange mtup).mono (by decide)
 have GPaper:FnOk P w K mg base CX0 9 gPaper dPaper ["pair","prices","rest","seed"] (spPaper P w K):=ok_paper DPaper.fn DLTold GLTold DLTab GLTab DMade (GMade.mono (by decide)) DLast GLast DSSp GSSp DTSp GTSp mlen mrange mtup
 exact ok_law F DCell GCell DPrices GPrices DStir GStir DMP GMP DLRest GLRest DPaper GPaper DStand (GStand.mono (by decide)) DLSt GLSt misi mbool
end
theorem all_mk {l:PySem.W.OpenLaw} {w:World} {K:PySem.W.Frag} {h:Heap} {mg:Str->Option Value} {fa fLooks fSkF fFits fWd fWw fAfter fWalk fCopy fPrice fCost fSwW fSkL fWays fStS fShape fKnS fTbS fStand fCell fStir fNext fWord fPrices fEye fSlip fPair fMP fLSteps fLAlk fLPrice fEnd fArms fKnots fLRest fLTold fLTab fDoes fMade fLBd fLSt fForm fChg fLast fSSp fTSp fPaper fLaw CNoSlips:Addr} (X:K.In h) (G:h.Ns mainGlobals mg) (hfa:mg "law" = some (.ref fa))
  {odLooks anLooks odSkF anSkF odFits anFits odWd anWd odWw anWw odAfter anAfter odWalk anWalk odCopy anCopy odPrice anPrice odCost anCost odSwW anSwW odSkL anSkL odWays anWays odStS anStS odShape anShape odKnS anKnS odTbS anTbS odStand anStand odCell anCell odStir anStir odNext anNext odWord anWord odPrices anPrices odEye anEye odSlip anSlip odPair anPair odMP anMP odLSteps anLSteps odLAlk anLAlk odLPrice anLPrice odEnd anEnd odArms anArms odKnots anKnots odLRest anLRest odLTold anLTold odLTab anLTab odDoes anDoes odMade anMade odLBd anLBd odLSt anLSt odForm anForm odChg anChg odLast anLast odSSp anSSp odTSp anTSp odPaper anPaper odLaw anLaw:Option Addr} {slLooks slSkF slFits slWd slWw slAfter slWalk slCopy slPrice slCost slSwW slSkL slWays slStS slShape slKnS slTbS slStand slCell slStir slNext slWord slPrices slEye slSlip slPair slMP slLSteps slLAlk slLPrice slEnd slArms slKnots slLRest slLTold slLTab slDoes slMade slLBd slLSt slForm slChg slLast slSSp slTSp slPaper slLaw:Array (Option Value)} {ocLooks kVLooks dcLooks pmLooks cdLooks ctLooks ocSkF kVSkF dcSkF pmSkF cdSkF ctSkF ocFits kVFits dcFits pmFits cdFits ctFits ocWd kVWd dcWd pmWd cdWd ctWd ocWw kVWw dcWw pmWw cdWw ctWw ocAfter kVAfter dcAfter pmAfter cdAfter ctAfter ocWalk kVWalk dcWalk pmWalk cdWalk ctWalk ocCopy kVCopy dcCopy pmCopy cdCopy ctCopy ocPrice kVPrice dcPrice pmPrice cdPrice ctPrice ocCost kVCost dcCost pmCost cdCost ctCost ocSwW kVSwW dcSwW pmSwW cdSwW ctSwW ocSkL kVSkL dcSkL pmSkL cdSkL ctSkL ocWays kVWays dcWays pmWays cdWays ctWays ocStS kVStS dcStS pmStS cdStS ctStS ocShape kVShape dcShape pmShape cdShape ctShape ocKnS kVKnS dcKnS pmKnS cdKnS ctKnS ocTbS kVTbS dcTbS pmTbS cdTbS ctTbS ocStand kVStand dcStand pmStand cdStand ctStand ocCell kVCell dcCell pmCell cdCell ctCell ocStir kVStir dcStir pmStir cdStir ctStir ocNext kVNext dcNext pmNext cdNext ctNext ocWord kVWord dcWord pmWord cdWord ctWord ocPrices kVPrices dcPrices pmPrices cdPrices ctPrices ocEye kVEye dcEye pmEye cdEye ctEye ocSlip kVSlip dcSlip pmSlip cdSlip ctSlip ocPair kVPair dcPair pmPair cdPair ctPair ocMP kVMP dcMP pmMP cdMP ctMP ocLSteps kVLSteps dcLSteps pmLSteps cdLSteps ctLSteps ocLAlk kVLAlk dcLAlk pmLAlk cdLAlk ctLAlk ocLPrice kVLPrice dcLPrice pmLPrice cdLPrice ctLPrice ocEnd kVEnd dcEnd pmEnd cdEnd ctEnd ocArms kVArms dcArms pmArms cdArms ctArms ocKnots kVKnots dcKnots pmKnots cdKnots ctKnots ocLRest kVLRest dcLRest pmLRest cdLRest ctLRest ocLTold kVLTold dcLTold pmLTold cdLTold ctLTold ocLTab kVLTab dcLTab pmLTab cdLTab ctLTab ocDoes kVDoes dcDoes pmDoes cdDoes ctDoes ocMade kVMade dcMade pmMade cdMade ctMade ocLBd kVLBd dcLBd pmLBd cdLBd ctLBd ocLSt kVLSt dcLSt pmLSt cdLSt ctLSt ocForm kVForm dcForm pmForm cdForm ctForm ocChg kVChg dcChg pmChg cdChg ctChg ocLast kVLast dcLast pmLast cdLast ctLast ocSSp kVSSp dcSSp pmSSp cdSSp ctSSp ocTSp kVTSp dcTSp pmTSp cdTSp ctTSp ocPaper kVPaper dcPaper pmPaper cdPaper ctPaper ocLaw kVLaw dcLaw pmLaw cdLaw ctLaw:Value} {tkLIKE tkMOST_WORDS:Tok}
  {aD:Addr} {esD:Array DictEntry} {nD:Nat} {q1 q2 q3 q4 q5 q6:Tok}
  (aLooks:PySem.W.nsIn K mainGlobals "looks_alike" = some (some (.ref fLooks))) (lLooks:K.lookup fLooks=some ⟨ocLooks,odLooks,.func (PySem.W.fnOf "looks_alike" "looks_alike" (defArgs sLooks) (defBody sLooks) (defScope sLooks) .none kVLooks dcLooks pmLooks anLooks cdLooks ctLooks),slLooks⟩) (cLooks:PySem.W.codeIn K cdLooks "looks_alike" = true) (kLooks:PySem.W.keepIn K (.ref fLooks)=true)
  (aSkF:PySem.W.nsIn K mainGlobals "skip_fits" = some (some (.ref fSkF))) (lSkF:K.lookup fSkF=some ⟨ocSkF,odSkF,.func (PySem.W.fnOf "skip_fits" "skip_fits" (defArgs sSkF) (defBody sSkF) (defScope sSkF) .none kVSkF dcSkF pmSkF anSkF cdSkF ctSkF),slSkF⟩) (cSkF:PySem.W.codeIn K cdSkF "skip_fits" = true) (kSkF:PySem.W.keepIn K (.ref fSkF)=true)
  (aFits:PySem.W.nsIn K mainGlobals "step_fits" = some (some (.ref fFits))) (lFits:K.lookup fFits=some ⟨ocFits,odFits,.func (PySem.W.fnOf "step_fits" "step_fits" (defArgs sFits) (defBody sFits) (defScope sFits) .none kVFits dcFits pmFits anFits cdFits ctFits),slFits⟩) (cFits:PySem.W.codeIn K cdFits "step_fits" = true) (kFits:PySem.W.keepIn K (.ref fFits)=true)
  (aWd:PySem.W.nsIn K mainGlobals "words_done" = some (some (.ref fWd))) (lWd:K.lookup fWd=some ⟨ocWd,odWd,.func (PySem.W.fnOf "words_done" "words_done" (defArgs sWd) (defBody sWd) (defScope sWd) .none kVWd dcWd pmWd anWd cdWd ctWd),slWd⟩) (cWd:PySem.W.codeIn K cdWd "words_done" = true) (kWd:PySem.W.keepIn K (.ref fWd)=true)
  (aWw:PySem.W.nsIn K mainGlobals "words_written" = some (some (.ref fWw))) (lWw:K.lookup fWw=some ⟨ocWw,odWw,.func (PySem.W.fnOf "words_written" "words_written" (defArgs sWw) (defBody sWw) (defScope sWw) .none kVWw dcWw pmWw anWw cdWw ctWw),slWw⟩) (cWw:PySem.W.codeIn K cdWw "words_written" = true) (kWw:PySem.W.keepIn K (.ref fWw)=true)
  (aAfter:PySem.W.nsIn K mainGlobals "step_after" = some (some (.ref fAfter))) (lAfter:K.lookup fAfter=some ⟨ocAfter,odAfter,.func (PySem.W.fnOf "step_after" "step_after" (defArgs sAfter) (defBody sAfter) (defScope sAfter) .none kVAfter dcAfter pmAfter anAfter cdAfter ctAfter),slAfter⟩) (cAfter:PySem.W.codeIn K cdAfter "step_after" = true) (kAfter:PySem.W.keepIn K (.ref fAfter)=true)
  (aWalk:PySem.W.nsIn K mainGlobals "steps_walked" = some (some (.ref fWalk))) (lWalk:K.lookup fWalk=some ⟨ocWalk,odWalk,.func (PySem.W.fnOf "steps_walked" "steps_walked" (defArgs sWalk) (defBody sWalk) (defScope sWalk) .none kVWalk dcWalk pmWalk anWalk cdWalk ctWalk),slWalk⟩) (cWalk:PySem.W.codeIn K cdWalk "steps_walked" = true) (kWalk:PySem.W.keepIn K (.ref fWalk)=true)
  (aCopy:PySem.W.nsIn K mainGlobals "copy_made" = some (some (.ref fCopy))) (lCopy:K.lookup fCopy=some ⟨ocCopy,odCopy,.func (PySem.W.fnOf "copy_made" "copy_made" (defArgs sCopy) (defBody sCopy) (defScope sCopy) .none kVCopy dcCopy pmCopy anCopy cdCopy ctCopy),slCopy⟩) (cCopy:PySem.W.codeIn K cdCopy "copy_made" = true) (kCopy:PySem.W.keepIn K (.ref fCopy)=true)
  (aPrice:PySem.W.nsIn K mainGlobals "step_price" = some (some (.ref fPrice))) (lPrice:K.lookup fPrice=some ⟨ocPrice,odPrice,.func (PySem.W.fnOf "step_price" "step_price" (defArgs sPrice) (defBody sPrice) (defScope sPrice) .none kVPrice dcPrice pmPrice anPrice cdPrice ctPrice),slPrice⟩) (cPrice:PySem.W.codeIn K cdPrice "step_price" = true) (kPrice:PySem.W.keepIn K (.ref fPrice)=true)
  (aCost:PySem.W.nsIn K mainGlobals "slips_price" = some (some (.ref fCost))) (lCost:K.lookup fCost=some ⟨ocCost,odCost,.func (PySem.W.fnOf "slips_price" "slips_price" (defArgs sCost) (defBody sCost) (defScope sCost) .none kVCost dcCost pmCost anCost cdCost ctCost),slCost⟩) (cCost:PySem.W.codeIn K cdCost "slips_price" = true) (kCost:PySem.W.keepIn K (.ref fCost)=true)
  (aSwW:PySem.W.nsIn K mainGlobals "swap_writes" = some (some (.ref fSwW))) (lSwW:K.lookup fSwW=some ⟨ocSwW,odSwW,.func (PySem.W.fnOf "swap_writes" "swap_writes" (defArgs sSwW) (defBody sSwW) (defScope sSwW) .none kVSwW dcSwW pmSwW anSwW cdSwW ctSwW),slSwW⟩) (cSwW:PySem.W.codeIn K cdSwW "swap_writes" = true) (kSwW:PySem.W.keepIn K (.ref fSwW)=true)
  (aSkL:PySem.W.nsIn K mainGlobals "skip_lengths" = some (some (.ref fSkL))) (lSkL:K.lookup fSkL=some ⟨ocSkL,odSkL,.func (PySem.W.fnOf "skip_lengths" "skip_lengths" (defArgs sSkL) (defBody sSkL) (defScope sSkL) .none kVSkL dcSkL pmSkL anSkL cdSkL ctSkL),slSkL⟩) (cSkL:PySem.W.codeIn K cdSkL "skip_lengths" = true) (kSkL:PySem.W.keepIn K (.ref fSkL)=true)
  (aWays:PySem.W.nsIn K mainGlobals "knot_ways" = some (some (.ref fWays))) (lWays:K.lookup fWays=some ⟨ocWays,odWays,.func (PySem.W.fnOf "knot_ways" "knot_ways" (defArgs sWays) (defBody sWays) (defScope sWays) .none kVWays dcWays pmWays anWays cdWays ctWays),slWays⟩) (cWays:PySem.W.codeIn K cdWays "knot_ways" = true) (kWays:PySem.W.keepIn K (.ref fWays)=true)
  (aStS:PySem.W.nsIn K mainGlobals "steps_stand" = some (some (.ref fStS))) (lStS:K.lookup fStS=some ⟨ocStS,odStS,.func (PySem.W.fnOf "steps_stand" "steps_stand" (defArgs sStS) (defBody sStS) (defScope sStS) .none kVStS dcStS pmStS anStS cdStS ctStS),slStS⟩) (cStS:PySem.W.codeIn K cdStS "steps_stand" = true) (kStS:PySem.W.keepIn K (.ref fStS)=true)
  (aShape:PySem.W.nsIn K mainGlobals "has_shape" = some (some (.ref fShape))) (lShape:K.lookup fShape=some ⟨ocShape,odShape,.func (PySem.W.fnOf "has_shape" "has_shape" (defArgs sShape) (defBody sShape) (defScope sShape) .none kVShape dcShape pmShape anShape cdShape ctShape),slShape⟩) (cShape:PySem.W.codeIn K cdShape "has_shape" = true) (kShape:PySem.W.keepIn K (.ref fShape)=true)
  (aKnS:PySem.W.nsIn K mainGlobals "knot_stands" = some (some (.ref fKnS))) (lKnS:K.lookup fKnS=some ⟨ocKnS,odKnS,.func (PySem.W.fnOf "knot_stands" "knot_stands" (defArgs sKnS) (defBody sKnS) (defScope sKnS) .none kVKnS dcKnS pmKnS anKnS cdKnS ctKnS),slKnS⟩) (cKnS:PySem.W.codeIn K cdKnS "knot_stands" = true) (kKnS:PySem.W.keepIn K (.ref fKnS)=true)
  (aTbS:PySem.W.nsIn K mainGlobals "table_stands" = some (some (.ref fTbS))) (lTbS:K.lookup fTbS=some ⟨ocTbS,odTbS,.func (PySem.W.fnOf "table_stands" "table_stands" (defArgs sTbS) (defBody sTbS) (defScope sTbS) .none kVTbS dcTbS pmTbS anTbS cdTbS ctTbS),slTbS⟩) (cTbS:PySem.W.codeIn K cdTbS "table_stands" = true) (kTbS:PySem.W.keepIn K (.ref fTbS)=true)
  (aStand:PySem.W.nsIn K mainGlobals "slips_stand" = some (some (.ref fStand))) (lStand:K.lookup fStand=some ⟨ocStand,odStand,.func (PySem.W.fnOf "slips_stand" "slips_stand" (defArgs sStand) (defBody sStand) (defScope sStand) .none kVStand dcStand pmStand anStand cdStand ctStand),slStand⟩) (cStand:PySem.W.codeIn K cdStand "slips_stand" = true) (kStand:PySem.W.keepIn K (.ref fStand)=true)
  (aCell:PySem.W.nsIn K mainGlobals "_law_cell_at" = some (some (.ref fCell))) (lCell:K.lookup fCell=some ⟨ocCell,odCell,.func (PySem.W.fnOf "_law_cell_at" "_law_cell_at" (defArgs sCell) (defBody sCell) (defScope sCell) .none kVCell dcCell pmCell anCell cdCell ctCell),slCell⟩) (cCell:PySem.W.codeIn K cdCell "_law_cell_at" = true) (kCell:PySem.W.keepIn K (.ref fCell)=true)
  (aStir:PySem.W.nsIn K mainGlobals "_law_stir" = some (some (.ref fStir))) (lStir:K.lookup fStir=some ⟨ocStir,odStir,.func (PySem.W.fnOf "_law_stir" "_law_stir" (defArgs sStir) (defBody sStir) (defScope sStir) .none kVStir dcStir pmStir anStir cdStir ctStir),slStir⟩) (cStir:PySem.W.codeIn K cdStir "_law_stir" = true) (kStir:PySem.W.keepIn K (.ref fStir)=true)
  (aNext:PySem.W.nsIn K mainGlobals "_law_next" = some (some (.ref fNext))) (lNext:K.lookup fNext=some ⟨ocNext,odNext,.func (PySem.W.fnOf "_law_next" "_law_next" (defArgs sNext) (defBody sNext) (defScope sNext) .none kVNext dcNext pmNext anNext cdNext ctNext),slNext⟩) (cNext:PySem.W.codeIn K cdNext "_law_next" = true) (kNext:PySem.W.keepIn K (.ref fNext)=true)
  (aWord:PySem.W.nsIn K mainGlobals "_law_word" = some (some (.ref fWord))) (lWord:K.lookup fWord=some ⟨ocWord,odWord,.func (PySem.W.fnOf "_law_word" "_law_word" (defArgs sWord) (defBody sWord) (defScope sWord) .none kVWord dcWord pmWord anWord cdWord ctWord),slWord⟩) (cWord:PySem.W.codeIn K cdWord "_law_word" = true) (kWord:PySem.W.keepIn K (.ref fWord)=true)
  (aPrices:PySem.W.nsIn K mainGlobals "_law_prices" = some (some (.ref fPrices))) (lPrices:K.lookup fPrices=some ⟨ocPrices,odPrices,.func (PySem.W.fnOf "_law_prices" "_law_prices" (defArgs sPrices) (defBody sPrices) (defScope sPrices) .none kVPrices dcPrices pmPrices anPrices cdPrices ctPrices),slPrices⟩) (cPrices:PySem.W.codeIn K cdPrices "_law_prices" = true) (kPrices:PySem.W.keepIn K (.ref fPrices)=true)
  (aEye:PySem.W.nsIn K mainGlobals "_law_eye" = some (some (.ref fEye))) (lEye:K.lookup fEye=some ⟨ocEye,odEye,.func (PySem.W.fnOf "_law_eye" "_law_eye" (defArgs sEye) (defBody sEye) (defScope sEye) .none kVEye dcEye pmEye anEye cdEye ctEye),slEye⟩) (cEye:PySem.W.codeIn K cdEye "_law_eye" = true) (kEye:PySem.W.keepIn K (.ref fEye)=true)
  (aSlip:PySem.W.nsIn K mainGlobals "_law_slip" = some (some (.ref fSlip))) (lSlip:K.lookup fSlip=some ⟨ocSlip,odSlip,.func (PySem.W.fnOf "_law_slip" "_law_slip" (defArgs sSlip) (defBody sSlip) (defScope sSlip) .none kVSlip dcSlip pmSlip anSlip cdSlip ctSlip),slSlip⟩) (cSlip:PySem.W.codeIn K cdSlip "_law_slip" = true) (kSlip:PySem.W.keepIn K (.ref fSlip)=true)
  (aPair:PySem.W.nsIn K mainGlobals "_law_pair" = some (some (.ref fPair))) (lPair:K.lookup fPair=some ⟨ocPair,odPair,.func (PySem.W.fnOf "_law_pair" "_law_pair" (defArgs sPair) (defBody sPair) (defScope sPair) .none kVPair dcPair pmPair anPair cdPair ctPair),slPair⟩) (cPair:PySem.W.codeIn K cdPair "_law_pair" = true) (kPair:PySem.W.keepIn K (.ref fPair)=true)
  (aMP:PySem.W.nsIn K mainGlobals "_law_made_pairs" = some (some (.ref fMP))) (lMP:K.lookup fMP=some ⟨ocMP,odMP,.func (PySem.W.fnOf "_law_made_pairs" "_law_made_pairs" (defArgs sMP) (defBody sMP) (defScope sMP) .none kVMP dcMP pmMP anMP cdMP ctMP),slMP⟩) (cMP:PySem.W.codeIn K cdMP "_law_made_pairs" = true) (kMP:PySem.W.keepIn K (.ref fMP)=true)
  (aLSteps:PySem.W.nsIn K mainGlobals "_law_steps" = some (some (.ref fLSteps))) (lLSteps:K.lookup fLSteps=some ⟨ocLSteps,odLSteps,.func (PySem.W.fnOf "_law_steps" "_law_steps" (defArgs sLSteps) (defBody sLSteps) (defScope sLSteps) .none kVLSteps dcLSteps pmLSteps anLSteps cdLSteps ctLSteps),slLSteps⟩) (cLSteps:PySem.W.codeIn K cdLSteps "_law_steps" = true) (kLSteps:PySem.W.keepIn K (.ref fLSteps)=true)
  (aLAlk:PySem.W.nsIn K mainGlobals "_law_alike" = some (some (.ref fLAlk))) (lLAlk:K.lookup fLAlk=some ⟨ocLAlk,odLAlk,.func (PySem.W.fnOf "_law_alike" "_law_alike" (defArgs sLAlk) (defBody sLAlk) (defScope sLAlk) .none kVLAlk dcLAlk pmLAlk anLAlk cdLAlk ctLAlk),slLAlk⟩) (cLAlk:PySem.W.codeIn K cdLAlk "_law_alike" = true) (kLAlk:PySem.W.keepIn K (.ref fLAlk)=true)
  (aLPrice:PySem.W.nsIn K mainGlobals "_law_price" = some (some (.ref fLPrice))) (lLPrice:K.lookup fLPrice=some ⟨ocLPrice,odLPrice,.func (PySem.W.fnOf "_law_price" "_law_price" (defArgs sLPrice) (defBody sLPrice) (defScope sLPrice) .none kVLPrice dcLPrice pmLPrice anLPrice cdLPrice ctLPrice),slLPrice⟩) (cLPrice:PySem.W.codeIn K cdLPrice "_law_price" = true) (kLPrice:PySem.W.keepIn K (.ref fLPrice)=true)
  (aEnd:PySem.W.nsIn K mainGlobals "_law_end" = some (some (.ref fEnd))) (lEnd:K.lookup fEnd=some ⟨ocEnd,odEnd,.func (PySem.W.fnOf "_law_end" "_law_end" (defArgs sEnd) (defBody sEnd) (defScope sEnd) .none kVEnd dcEnd pmEnd anEnd cdEnd ctEnd),slEnd⟩) (cEnd:PySem.W.codeIn K cdEnd "_law_end" = true) (kEnd:PySem.W.keepIn K (.ref fEnd)=true)
  (aArms:PySem.W.nsIn K mainGlobals "_law_arms" = some (some (.ref fArms))) (lArms:K.lookup fArms=some ⟨ocArms,odArms,.func (PySem.W.fnOf "_law_arms" "_law_arms" (defArgs sArms) (defBody sArms) (defScope sArms) .none kVArms dcArms pmArms anArms cdArms ctArms),slArms⟩) (cArms:PySem.W.codeIn K cdArms "_law_arms" = true) (kArms:PySem.W.keepIn K (.ref fArms)=true)
  (aKnots:PySem.W.nsIn K mainGlobals "_law_knots" = some (some (.ref fKnots))) (lKnots:K.lookup fKnots=some ⟨ocKnots,odKnots,.func (PySem.W.fnOf "_law_knots" "_law_knots" (defArgs sKnots) (defBody sKnots) (defScope sKnots) .none kVKnots dcKnots pmKnots anKnots cdKnots ctKnots),slKnots⟩) (cKnots:PySem.W.codeIn K cdKnots "_law_knots" = true) (kKnots:PySem.W.keepIn K (.ref fKnots)=true)
  (aLRest:PySem.W.nsIn K mainGlobals "_law_rest" = some (some (.ref fLRest))) (lLRest:K.lookup fLRest=some ⟨ocLRest,odLRest,.func (PySem.W.fnOf "_law_rest" "_law_rest" (defArgs sLRest) (defBody sLRest) (defScope sLRest) .none kVLRest dcLRest pmLRest anLRest cdLRest ctLRest),slLRest⟩) (cLRest:PySem.W.codeIn K cdLRest "_law_rest" = true) (kLRest:PySem.W.keepIn K (.ref fLRest)=true)
  (aLTold:PySem.W.nsIn K mainGlobals "_law_told" = some (some (.ref fLTold))) (lLTold:K.lookup fLTold=some ⟨ocLTold,odLTold,.func (PySem.W.fnOf "_law_told" "_law_told" (defArgs sLTold) (defBody sLTold) (defScope sLTold) .none kVLTold dcLTold pmLTold anLTold cdLTold ctLTold),slLTold⟩) (cLTold:PySem.W.codeIn K cdLTold "_law_told" = true) (kLTold:PySem.W.keepIn K (.ref fLTold)=true)
  (aLTab:PySem.W.nsIn K mainGlobals "_law_table" = some (some (.ref fLTab))) (lLTab:K.lookup fLTab=some ⟨ocLTab,odLTab,.func (PySem.W.fnOf "_law_table" "_law_table" (defArgs sLTab) (defBody sLTab) (defScope sLTab) .none kVLTab dcLTab pmLTab anLTab cdLTab ctLTab),slLTab⟩) (cLTab:PySem.W.codeIn K cdLTab "_law_table" = true) (kLTab:PySem.W.keepIn K (.ref fLTab)=true)
  (aDoes:PySem.W.nsIn K mainGlobals "_law_does" = some (some (.ref fDoes))) (lDoes:K.lookup fDoes=some ⟨ocDoes,odDoes,.func (PySem.W.fnOf "_law_does" "_law_does" (defArgs sDoes) (defBody sDoes) (defScope sDoes) .none kVDoes dcDoes pmDoes anDoes cdDoes ctDoes),slDoes⟩) (cDoes:PySem.W.codeIn K cdDoes "_law_does" = true) (kDoes:PySem.W.keepIn K (.ref fDoes)=true)
  (aMade:PySem.W.nsIn K mainGlobals "_law_made" = some (some (.ref fMade))) (lMade:K.lookup fMade=some ⟨ocMade,odMade,.func (PySem.W.fnOf "_law_made" "_law_made" (defArgs sMade) (defBody sMade) (defScope sMade) .none kVMade dcMade pmMade anMade cdMade ctMade),slMade⟩) (cMade:PySem.W.codeIn K cdMade "_law_made" = true) (kMade:PySem.W.keepIn K (.ref fMade)=true)
  (aLBd:PySem.W.nsIn K mainGlobals "_law_bounds" = some (some (.ref fLBd))) (lLBd:K.lookup fLBd=some ⟨ocLBd,odLBd,.func (PySem.W.fnOf "_law_bounds" "_law_bounds" (defArgs sLBd) (defBody sLBd) (defScope sLBd) .none kVLBd dcLBd pmLBd anLBd cdLBd ctLBd),slLBd⟩) (cLBd:PySem.W.codeIn K cdLBd "_law_bounds" = true) (kLBd:PySem.W.keepIn K (.ref fLBd)=true)
  (aLSt:PySem.W.nsIn K mainGlobals "_law_stands" = some (some (.ref fLSt))) (lLSt:K.lookup fLSt=some ⟨ocLSt,odLSt,.func (PySem.W.fnOf "_law_stands" "_law_stands" (defArgs sLSt) (defBody sLSt) (defScope sLSt) .none kVLSt dcLSt pmLSt anLSt cdLSt ctLSt),slLSt⟩) (cLSt:PySem.W.codeIn K cdLSt "_law_stands" = true) (kLSt:PySem.W.keepIn K (.ref fLSt)=true)
  (aForm:PySem.W.nsIn K mainGlobals "_law_form" = some (some (.ref fForm))) (lForm:K.lookup fForm=some ⟨ocForm,odForm,.func (PySem.W.fnOf "_law_form" "_law_form" (defArgs sForm) (defBody sForm) (defScope sForm) .none kVForm dcForm pmForm anForm cdForm ctForm),slForm⟩) (cForm:PySem.W.codeIn K cdForm "_law_form" = true) (kForm:PySem.W.keepIn K (.ref fForm)=true)
  (aChg:PySem.W.nsIn K mainGlobals "_law_changed" = some (some (.ref fChg))) (lChg:K.lookup fChg=some ⟨ocChg,odChg,.func (PySem.W.fnOf "_law_changed" "_law_changed" (defArgs sChg) (defBody sChg) (defScope sChg) .none kVChg dcChg pmChg anChg cdChg ctChg),slChg⟩) (cChg:PySem.W.codeIn K cdChg "_law_changed" = true) (kChg:PySem.W.keepIn K (.ref fChg)=true)
  (aLast:PySem.W.nsIn K mainGlobals "_law_last" = some (some (.ref fLast))) (lLast:K.lookup fLast=some ⟨ocLast,odLast,.func (PySem.W.fnOf "_law_last" "_law_last" (defArgs sLast) (defBody sLast) (defScope sLast) .none kVLast dcLast pmLast anLast cdLast ctLast),slLast⟩) (cLast:PySem.W.codeIn K cdLast "_law_last" = true) (kLast:PySem.W.keepIn K (.ref fLast)=true)
  (aSSp:PySem.W.nsIn K mainGlobals "_law_steps_spoilt" = some (some (.ref fSSp))) (lSSp:K.lookup fSSp=some ⟨ocSSp,odSSp,.func (PySem.W.fnOf "_law_steps_spoilt" "_law_steps_spoilt" (defArgs sSSp) (defBody sSSp) (defScope sSSp) .none kVSSp dcSSp pmSSp anSSp cdSSp ctSSp),slSSp⟩) (cSSp:PySem.W.codeIn K cdSSp "_law_steps_spoilt" = true) (kSSp:PySem.W.keepIn K (.ref fSSp)=true)
  (aTSp:PySem.W.nsIn K mainGlobals "_law_table_spoilt" = some (some (.ref fTSp))) (lTSp:K.lookup fTSp=some ⟨ocTSp,odTSp,.func (PySem.W.fnOf "_law_table_spoilt" "_law_table_spoilt" (defArgs sTSp) (defBody sTSp) (defScope sTSp) .none kVTSp dcTSp pmTSp anTSp cdTSp ctTSp),slTSp⟩) (cTSp:PySem.W.codeIn K cdTSp "_law_table_spoilt" = true) (kTSp:PySem.W.keepIn K (.ref fTSp)=true)
  (aPaper:PySem.W.nsIn K mainGlobals "_law_paper" = some (some (.ref fPaper))) (lPaper:K.lookup fPaper=some ⟨ocPaper,odPaper,.func (PySem.W.fnOf "_law_paper" "_law_paper" (defArgs sPaper) (defBody sPaper) (defScope sPaper) .none kVPaper dcPaper pmPaper anPaper cdPaper ctPaper),slPaper⟩) (cPaper:PySem.W.codeIn K cdPaper "_law_paper" = true) (kPaper:PySem.W.keepIn K (.ref fPaper)=true)
  (aLaw:PySem.W.nsIn K mainGlobals "law" = some (some (.ref fLaw))) (lLaw:K.lookup fLaw=some ⟨ocLaw,odLaw,.func (PySem.W.fnOf "law" "law" (defArgs sLaw) (defBody sLaw) (defScope sLaw) .none kVLaw dcLaw pmLaw anLaw cdLaw ctLaw),slLaw⟩) (cLaw:PySem.W.codeIn K cdLaw "law" = true) (kLaw:PySem.W.keepIn K (.ref fLaw)=true)
  (gLIKE:PySem.W.nsIn K mainGlobals "LIKE" = some (some (.int 0 tkLIKE)))
  (gPRICE_PLACES:PySem.W.nsIn K mainGlobals "PRICE_PLACES" = some (some (.ref aD)))
  (gMOST_WORDS:PySem.W.nsIn K mainGlobals "MOST_WORDS" = some (some (.int 40 tkMOST_WORDS)))
  (gNoSlips:PySem.W.nsIn K mainGlobals "NoSlips" = some (some (.ref CNoSlips)))
  (ball:PySem.W.nsIn K mainGlobals "all" = some none)
  (blen:PySem.W.nsIn K mainGlobals "len" = some none)
  (brange:PySem.W.nsIn K mainGlobals "range" = some none)
  (bisinstance:PySem.W.nsIn K mainGlobals "isinstance" = some none)
  (btuple:PySem.W.nsIn K mainGlobals "tuple" = some none)
  (bint:PySem.W.nsIn K mainGlobals "int" = some none)
  (bbool:PySem.W.nsIn K mainGlobals "bool" = some none)
  (bmin:PySem.W.nsIn K mainGlobals "min" = some none)
  (bmax:PySem.W.nsIn K mainGlobals "max" = some none)
  (bsum:PySem.W.nsIn K mainGlobals "sum" = some none)
  (bzip:PySem.W.nsIn K mainGlobals "zip" = some none)
  (breversed:PySem.W.nsIn K mainGlobals "reversed" = some none)
  (vNoSlips:PySem.W.excIn K CNoSlips [Value.type "ValueError",Value.type "Exception",Value.type "BaseException",Value.type "object"] "ValueError.__new__" = true)
  (h2:PySem.W.mroIn K CNoSlips (.ref CNoSlips)=some true)
  (dl:K.lookup aD=some ⟨.type "dict",none,.dict esD nD,#[]⟩)
  (dk:PySem.W.KeysLit w.params esD.toList)
  (d1:PySem.W.nsIn K aD "turn" = some (some (.int 1 q1)))
  (d2:PySem.W.nsIn K aD "lose" = some (some (.int 2 q2)))
  (d3:PySem.W.nsIn K aD "add" = some (some (.int 3 q3)))
  (d4:PySem.W.nsIn K aD "twice" = some (some (.int 4 q4)))
  (d5:PySem.W.nsIn K aD "swap" = some (some (.int 5 q5)))
  (d6:PySem.W.nsIn K aD "skip" = some (some (.int 6 q6)))
  : ∃ fd:FuncData,(∀ (s:Shared) (v:Value),BindsTo s fd ⟨[v],[]⟩ [("script",v)])/\∀ base:Heap,K.In base->base.Ns mainGlobals mg->FnOk l.prog w K mg base CX0 10 fa fd ["script"] (spLaw K):=by
 have e:=hfa.symm.trans (PySem.W.mg_of X G aLaw)
 cases e
 have FLooks:=fun_mk (st:=sLooks) lLooks cLooks kLooks
 have b_Looks:=FLooks.binds (ps:=["one","two"]) fun _ _ _ _ _ _ us hl=>match us,hl with | [_,_],_=>rfl
 have DLooks:Dfn K mg "looks_alike" sLooks fLooks _ ["one","two"]:=⟨FLooks,PySem.W.mg_of X G aLooks,b_Looks⟩
 have FSkF:=fun_mk (st:=sSkF) lSkF cSkF kSkF
 have b_SkF:=FSkF.binds (ps:=["elder","done","many"]) fun _ _ _ _ _ _ us hl=>match us,hl with | [_,_,_],_=>rfl
 have DSkF:Dfn K mg "skip_fits" sSkF fSkF _ ["elder","done","many"]:=⟨FSkF,PySem.W.mg_of X G aSkF,b_SkF⟩
 have FFits:=fun_mk (st:=sFits) lFits cFits kFits
 have b_Fits:=FFits.binds (ps:=["elder","done","last","step"]) fun _ _ _ _ _ _ us hl=>match us,hl with | [_,_,_,_],_=>rfl
 have DFits:Dfn K mg "step_fits" sFits fFits _ ["elder","done","last","step"]:=⟨FFits,PySem.W.mg_of X G aFits,b_Fits⟩
 have FWd:=fun_mk (st:=sWd) lWd cWd kWd
 have b_Wd:=FWd.binds (ps:=["step"]) fun _ _ _ _ _ _ us hl=>match us,hl with | [_],_=>rfl
 have DWd:Dfn K mg "words_done" sWd fWd _ ["step"]:=⟨FWd,PySem.W.mg_of X G aWd,b_Wd⟩
 have FWw:=fun_mk (st:=sWw) lWw cWw kWw
 have b_Ww:=FWw.binds (ps:=["elder","done","last","step"]) fun _ _ _ _ _ _ us hl=>match us,hl with | [_,_,_,_],_=>rfl
 have DWw:Dfn K mg "words_written" sWw fWw _ ["elder","done","last","step"]:=⟨FWw,PySem.W.mg_of X G aWw,b_Ww⟩
 have FAfter:=fun_mk (st:=sAfter) lAfter cAfter kAfter
 have b_After:=FAfter.binds (ps:=["elder","done","last","step"]) fun _ _ _ _ _ _ us hl=>match us,hl with | [_,_,_,_],_=>rfl
 have DAfter:Dfn K mg "step_after" sAfter fAfter _ ["elder","done","last","step"]:=⟨FAfter,PySem.W.mg_of X G aAfter,b_After⟩
 have FWalk:=fun_mk (st:=sWalk) lWalk cWalk kWalk
 have b_Walk:=FWalk.binds (ps:=["elder","steps"]) fun _ _ _ _ _ _ us hl=>match us,hl with | [_,_],_=>rfl
 have DWalk:Dfn K mg "steps_walked" sWalk fWalk _ ["elder","steps"]:=⟨FWalk,PySem.W.mg_of X G aWalk,b_Walk⟩
 have FCopy:=fun_mk (st:=sCopy) lCopy cCopy kCopy
 have b_Copy:=FCopy.binds (ps:=["elder","steps"]) fun _ _ _ _ _ _ us hl=>match us,hl with | [_,_],_=>rfl
 have DCopy:Dfn K mg "copy_made" sCopy fCopy _ ["elder","steps"]:=⟨FCopy,PySem.W.mg_of X G aCopy,b_Copy⟩
 have FPrice:=fun_mk (st:=sPrice) lPrice cPrice kPrice
 have b_Price:=FPrice.binds (ps:=["elder","done","step","prices"]) fun _ _ _ _ _ _ us hl=>match us,hl with | [_,_,_,_],_=>rfl
 have DPrice:Dfn K mg "step_price" sPrice fPrice _ ["elder","done","step","prices"]:=⟨FPrice,PySem.W.mg_of X G aPrice,b_Price⟩
 have FCost:=fun_mk (st:=sCost) lCost cCost kCost
 have b_Cost:=FCost.binds (ps:=["elder","steps","prices"]) fun _ _ _ _ _ _ us hl=>match us,hl with | [_,_,_],_=>rfl
 have DCost:Dfn K mg "slips_price" sCost fCost _ ["elder","steps","prices"]:=⟨FCost,PySem.W.mg_of X G aCost,b_Cost⟩
 have FSwW:=fun_mk (st:=sSwW) lSwW cSwW kSwW
 have b_SwW:=FSwW.binds (ps:=["elder","copy","i","j"]) fun _ _ _ _ _ _ us hl=>match us,hl with | [_,_,_,_],_=>rfl
 have DSwW:Dfn K mg "swap_writes" sSwW fSwW _ ["elder","copy","i","j"]:=⟨FSwW,PySem.W.mg_of X G aSwW,b_SwW⟩
 have FSkL:=fun_mk (st:=sSkL) lSkL cSkL kSkL
 have b_SkL:=FSkL.binds (ps:=["elder","i"]) fun _ _ _ _ _ _ us hl=>match us,hl with | [_,_],_=>rfl
 have DSkL:Dfn K mg "skip_lengths" sSkL fSkL _ ["elder","i"]:=⟨FSkL,PySem.W.mg_of X G aSkL,b_SkL⟩
 have FWays:=fun_mk (st:=sWays) lWays cWays kWays
 have b_Ways:=FWays.binds (ps:=["elder","copy","i","j"]) fun _ _ _ _ _ _ us hl=>match us,hl with | [_,_,_,_],_=>rfl
 have DWays:Dfn K mg "knot_ways" sWays fWays _ ["elder","copy","i","j"]:=⟨FWays,PySem.W.mg_of X G aWays,b_Ways⟩
 have FStS:=fun_mk (st:=sStS) lStS cStS kStS
 have b_StS:=FStS.binds (ps:=["elder","copy","prices","price","steps"]) fun _ _ _ _ _ _ us hl=>match us,hl with | [_,_,_,_,_],_=>rfl
 have DStS:Dfn K mg "steps_stand" sStS fStS _ ["elder","copy","prices","price","steps"]:=⟨FStS,PySem.W.mg_of X G aStS,b_StS⟩
 have FShape:=fun_mk (st:=sShape) lShape cShape kShape
 have b_Shape:=FShape.binds (ps:=["elder","copy","table"]) fun _ _ _ _ _ _ us hl=>match us,hl with | [_,_,_],_=>rfl
 have DShape:Dfn K mg "has_shape" sShape fShape _ ["elder","copy","table"]:=⟨FShape,PySem.W.mg_of X G aShape,b_Shape⟩
 have FKnS:=fun_mk (st:=sKnS) lKnS cKnS kKnS
 have b_KnS:=FKnS.binds (ps:=["elder","copy","prices","table","i","j"]) fun _ _ _ _ _ _ us hl=>match us,hl with | [_,_,_,_,_,_],_=>rfl
 have DKnS:Dfn K mg "knot_stands" sKnS fKnS _ ["elder","copy","prices","table","i","j"]:=⟨FKnS,PySem.W.mg_of X G aKnS,b_KnS⟩
 have FTbS:=fun_mk (st:=sTbS) lTbS cTbS kTbS
 have b_TbS:=FTbS.binds (ps:=["elder","copy","prices","price","table"]) fun _ _ _ _ _ _ us hl=>match us,hl with | [_,_,_,_,_],_=>rfl
 have DTbS:Dfn K mg "table_stands" sTbS fTbS _ ["elder","copy","prices","price","table"]:=⟨FTbS,PySem.W.mg_of X G aTbS,b_TbS⟩
 have FStand:=fun_mk (st:=sStand) lStand cStand kStand
 have b_Stand:=FStand.binds (ps:=["elder","copy","prices","price","steps","table"]) fun _ _ _ _ _ _ us hl=>match us,hl with | [_,_,_,_,_,_],_=>rfl
 have DStand:Dfn K mg "slips_stand" sStand fStand _ ["elder","copy","prices","price","steps","table"]:=⟨FStand,PySem.W.mg_of X G aStand,b_Stand⟩
 have FCell:=fun_mk (st:=sCell) lCell cCell kCell
 have b_Cell:=FCell.binds (ps:=["script","k"]) fun _ _ _ _ _ _ us hl=>match us,hl with | [_,_],_=>rfl
 have DCell:Dfn K mg "_law_cell_at" sCell fCell _ ["script","k"]:=⟨FCell,PySem.W.mg_of X G aCell,b_Cell⟩
 have FStir:=fun_mk (st:=sStir) lStir cStir kStir
 have b_Stir:=FStir.binds (ps:=["cell"]) fun _ _ _ _ _ _ us hl=>match us,hl with | [_],_=>rfl
 have DStir:Dfn K mg "_law_stir" sStir fStir _ ["cell"]:=⟨FStir,PySem.W.mg_of X G aStir,b_Stir⟩
 have FNext:=fun_mk (st:=sNext) lNext cNext kNext
 have b_Next:=FNext.binds (ps:=["left"]) fun _ _ _ _ _ _ us hl=>match us,hl with | [_],_=>rfl
 have DNext:Dfn K mg "_law_next" sNext fNext _ ["left"]:=⟨FNext,PySem.W.mg_of X G aNext,b_Next⟩
 have FWord:=fun_mk (st:=sWord) lWord cWord kWord
 have b_Word:=FWord.binds (ps:=["seed","code"]) fun _ _ _ _ _ _ us hl=>match us,hl with | [_,_],_=>rfl
 have DWord:Dfn K mg "_law_word" sWord fWord _ ["seed","code"]:=⟨FWord,PySem.W.mg_of X G aWord,b_Word⟩
 have FPrices:=fun_mk (st:=sPrices) lPrices cPrices kPrices
 have b_Prices:=FPrices.binds (ps:=["cell"]) fun _ _ _ _ _ _ us hl=>match us,hl with | [_],_=>rfl
 have DPrices:Dfn K mg "_law_prices" sPrices fPrices _ ["cell"]:=⟨FPrices,PySem.W.mg_of X G aPrices,b_Prices⟩
 have FEye:=fun_mk (st:=sEye) lEye cEye kEye
 have b_Eye:=FEye.binds (ps:=["elder","left","seed","most"]) fun _ _ _ _ _ _ us hl=>match us,hl with | [_,_,_,_],_=>rfl
 have DEye:Dfn K mg "_law_eye" sEye fEye _ ["elder","left","seed","most"]:=⟨FEye,PySem.W.mg_of X G aEye,b_Eye⟩
 have FSlip:=fun_mk (st:=sSlip) lSlip cSlip kSlip
 have b_Slip:=FSlip.binds (ps:=["elder","copy","steps","left","words"]) fun _ _ _ _ _ _ us hl=>match us,hl with | [_,_,_,_,_],_=>rfl
 have DSlip:Dfn K mg "_law_slip" sSlip fSlip _ ["elder","copy","steps","left","words"]:=⟨FSlip,PySem.W.mg_of X G aSlip,b_Slip⟩
 have FPair:=fun_mk (st:=sPair) lPair cPair kPair
 have b_Pair:=FPair.binds (ps:=["cells","seed","most"]) fun _ _ _ _ _ _ us hl=>match us,hl with | [_,_,_],_=>rfl
 have DPair:Dfn K mg "_law_pair" sPair fPair _ ["cells","seed","most"]:=⟨FPair,PySem.W.mg_of X G aPair,b_Pair⟩
 have FMP:=fun_mk (st:=sMP) lMP cMP kMP
 have b_MP:=FMP.binds (ps:=["script","many"]) fun _ _ _ _ _ _ us hl=>match us,hl with | [_,_],_=>rfl
 have DMP:Dfn K mg "_law_made_pairs" sMP fMP _ ["script","many"]:=⟨FMP,PySem.W.mg_of X G aMP,b_MP⟩
 have FLSteps:=fun_mk (st:=sLSteps) lLSteps cLSteps kLSteps
 have b_LSteps:=FLSteps.binds (ps:=["elder","copy","i","j"]) fun _ _ _ _ _ _ us hl=>match us,hl with | [_,_,_,_],_=>rfl
 have DLSteps:Dfn K mg "_law_steps" sLSteps fLSteps _ ["elder","copy","i","j"]:=⟨FLSteps,PySem.W.mg_of X G aLSteps,b_LSteps⟩
 have FLAlk:=fun_mk (st:=sLAlk) lLAlk cLAlk kLAlk
 have b_LAlk:=FLAlk.binds (ps:=["one","two"]) fun _ _ _ _ _ _ us hl=>match us,hl with | [_,_],_=>rfl
 have DLAlk:Dfn K mg "_law_alike" sLAlk fLAlk _ ["one","two"]:=⟨FLAlk,PySem.W.mg_of X G aLAlk,b_LAlk⟩
 have FLPrice:=fun_mk (st:=sLPrice) lLPrice cLPrice kLPrice
 have b_LPrice:=FLPrice.binds (ps:=["elder","i","step","prices"]) fun _ _ _ _ _ _ us hl=>match us,hl with | [_,_,_,_],_=>rfl
 have DLPrice:Dfn K mg "_law_price" sLPrice fLPrice _ ["elder","i","step","prices"]:=⟨FLPrice,PySem.W.mg_of X G aLPrice,b_LPrice⟩
 have FEnd:=fun_mk (st:=sEnd) lEnd cEnd kEnd
 have b_End:=FEnd.binds (ps:=["i","j","step"]) fun _ _ _ _ _ _ us hl=>match us,hl with | [_,_,_],_=>rfl
 have DEnd:Dfn K mg "_law_end" sEnd fEnd _ ["i","j","step"]:=⟨FEnd,PySem.W.mg_of X G aEnd,b_End⟩
 have FArms:=fun_mk (st:=sArms) lArms cArms kArms
 have b_Arms:=FArms.binds (ps:=["elder","copy","prices","i","j"]) fun _ _ _ _ _ _ us hl=>match us,hl with | [_,_,_,_,_],_=>rfl
 have DArms:Dfn K mg "_law_arms" sArms fArms _ ["elder","copy","prices","i","j"]:=⟨FArms,PySem.W.mg_of X G aArms,b_Arms⟩
 have FKnots:=fun_mk (st:=sKnots) lKnots cKnots kKnots
 have b_Knots:=FKnots.binds (ps:=["elder","copy"]) fun _ _ _ _ _ _ us hl=>match us,hl with | [_,_],_=>rfl
 have DKnots:Dfn K mg "_law_knots" sKnots fKnots _ ["elder","copy"]:=⟨FKnots,PySem.W.mg_of X G aKnots,b_Knots⟩
 have FLRest:=fun_mk (st:=sLRest) lLRest cLRest kLRest
 have b_LRest:=FLRest.binds (ps:=["elder","copy","prices"]) fun _ _ _ _ _ _ us hl=>match us,hl with | [_,_,_],_=>rfl
 have DLRest:Dfn K mg "_law_rest" sLRest fLRest _ ["elder","copy","prices"]:=⟨FLRest,PySem.W.mg_of X G aLRest,b_LRest⟩
 have FLTold:=fun_mk (st:=sLTold) lLTold cLTold kLTold
 have b_LTold:=FLTold.binds (ps:=["elder","copy","prices","rest"]) fun _ _ _ _ _ _ us hl=>match us,hl with | [_,_,_,_],_=>rfl
 have DLTold:Dfn K mg "_law_told" sLTold fLTold _ ["elder","copy","prices","rest"]:=⟨FLTold,PySem.W.mg_of X G aLTold,b_LTold⟩
 have FLTab:=fun_mk (st:=sLTab) lLTab cLTab kLTab
 have b_LTab:=FLTab.binds (ps:=["elder","copy","prices"]) fun _ _ _ _ _ _ us hl=>match us,hl with | [_,_,_],_=>rfl
 have DLTab:Dfn K mg "_law_table" sLTab fLTab _ ["elder","copy","prices"]:=⟨FLTab,PySem.W.mg_of X G aLTab,b_LTab⟩
 have FDoes:=fun_mk (st:=sDoes) lDoes cDoes kDoes
 have b_Does:=FDoes.binds (ps:=["elder","done","copy","step"]) fun _ _ _ _ _ _ us hl=>match us,hl with | [_,_,_,_],_=>rfl
 have DDoes:Dfn K mg "_law_does" sDoes fDoes _ ["elder","done","copy","step"]:=⟨FDoes,PySem.W.mg_of X G aDoes,b_Does⟩
 have FMade:=fun_mk (st:=sMade) lMade cMade kMade
 have b_Made:=FMade.binds (ps:=["elder","steps","prices"]) fun _ _ _ _ _ _ us hl=>match us,hl with | [_,_,_],_=>rfl
 have DMade:Dfn K mg "_law_made" sMade fMade _ ["elder","steps","prices"]:=⟨FMade,PySem.W.mg_of X G aMade,b_Made⟩
 have FLBd:=fun_mk (st:=sLBd) lLBd cLBd kLBd
 have b_LBd:=FLBd.binds (ps:=["elder","copy","prices","table"]) fun _ _ _ _ _ _ us hl=>match us,hl with | [_,_,_,_],_=>rfl
 have DLBd:Dfn K mg "_law_bounds" sLBd fLBd _ ["elder","copy","prices","table"]:=⟨FLBd,PySem.W.mg_of X G aLBd,b_LBd⟩
 have FLSt:=fun_mk (st:=sLSt) lLSt cLSt kLSt
 have b_LSt:=FLSt.binds (ps:=["elder","copy","prices","price","steps","table"]) fun _ _ _ _ _ _ us hl=>match us,hl with | [_,_,_,_,_,_],_=>rfl
 have DLSt:Dfn K mg "_law_stands" sLSt fLSt _ ["elder","copy","prices","price","steps","table"]:=⟨FLSt,PySem.W.mg_of X G aLSt,b_LSt⟩
 have FForm:=fun_mk (st:=sForm) lForm cForm kForm
 have b_Form:=FForm.binds (ps:=["seed","left"]) fun _ _ _ _ _ _ us hl=>match us,hl with | [_,_],_=>rfl
 have DForm:Dfn K mg "_law_form" sForm fForm _ ["seed","left"]:=⟨FForm,PySem.W.mg_of X G aForm,b_Form⟩
 have FChg:=fun_mk (st:=sChg) lChg cChg kChg
 have b_Chg:=FChg.binds (ps:=["table","left","more"]) fun _ _ _ _ _ _ us hl=>match us,hl with | [_,_,_],_=>rfl
 have DChg:Dfn K mg "_law_changed" sChg fChg _ ["table","left","more"]:=⟨FChg,PySem.W.mg_of X G aChg,b_Chg⟩
 have FLast:=fun_mk (st:=sLast) lLast cLast kLast
 have b_Last:=FLast.binds (ps:=["table","price"]) fun _ _ _ _ _ _ us hl=>match us,hl with | [_,_],_=>rfl
 have DLast:Dfn K mg "_law_last" sLast fLast _ ["table","price"]:=⟨FLast,PySem.W.mg_of X G aLast,b_Last⟩
 have FSSp:=fun_mk (st:=sSSp) lSSp cSSp kSSp
 have b_SSp:=FSSp.binds (ps:=["steps","way","seed","left"]) fun _ _ _ _ _ _ us hl=>match us,hl with | [_,_,_,_],_=>rfl
 have DSSp:Dfn K mg "_law_steps_spoilt" sSSp fSSp _ ["steps","way","seed","left"]:=⟨FSSp,PySem.W.mg_of X G aSSp,b_SSp⟩
 have FTSp:=fun_mk (st:=sTSp) lTSp cTSp kTSp
 have b_TSp:=FTSp.binds (ps:=["table","way","left"]) fun _ _ _ _ _ _ us hl=>match us,hl with | [_,_,_],_=>rfl
 have DTSp:Dfn K mg "_law_table_spoilt" sTSp fTSp _ ["table","way","left"]:=⟨FTSp,PySem.W.mg_of X G aTSp,b_TSp⟩
 have FPaper:=fun_mk (st:=sPaper) lPaper cPaper kPaper
 have b_Paper:=FPaper.binds (ps:=["pair","prices","rest","seed"]) fun _ _ _ _ _ _ us hl=>match us,hl with | [_,_,_,_],_=>rfl
 have DPaper:Dfn K mg "_law_paper" sPaper fPaper _ ["pair","prices","rest","seed"]:=⟨FPaper,PySem.W.mg_of X G aPaper,b_Paper⟩
 have FLaw:=fun_mk (st:=sLaw) lLaw cLaw kLaw
 have mLIKE:=PySem.W.mg_of X G gLIKE
 have mPRICE_PLACES:=PySem.W.mg_of X G gPRICE_PLACES
 have mMOST_WORDS:=PySem.W.mg_of X G gMOST_WORDS
 have mNoSlips:=PySem.W.mg_of X G gNoSlips
 have mall:=PySem.W.mg_none_of X G ball
 have mlen:=PySem.W.mg_none_of X G blen
 have mrange:=PySem.W.mg_none_of X G brange
 have misinstance:=PySem.W.mg_none_of X G bisinstance
 have mtuple:=PySem.W.mg_none_of X G btuple
 have mint:=PySem.W.mg_none_of X G bint
 have mbool:=PySem.W.mg_none_of X G bbool
 have mmin:=PySem.W.mg_none_of X G bmin
 have mmax:=PySem.W.mg_none_of X G bmax
 have msum:=PySem.W.mg_none_of X G bsum
 have mzip:=PySem.W.mg_none_of X G bzip
 have mreversed:=PySem.W.mg_none_of X G breversed
 exact ⟨PySem.W.fnOf "law" "law" (defArgs sLaw) (defBody sLaw) (defScope sLaw) .none kVLaw dcLaw pmLaw anLaw cdLaw ctLaw,fun s v=>.of_eq rfl,fun base _ _=>ok_all FLaw DLooks DSkF DFits DWd DWw DAfter DWalk DCopy DPrice DCost DSwW DSkL DWays DStS DShape DKnS DTbS DStand DCell DStir DNext DWord DPrices DEye DSlip DPair DMP DLSteps DLAlk DLPrice DEnd DArms DKnots DLRest DLTold DLTab DDoes DMade DLBd DLSt DForm DChg DLast DSSp DTSp DPaper mall mlen mrange misinstance mtuple mint mbool mmin mmax msum mzip mreversed mLIKE mPRICE_PLACES mMOST_WORDS mNoSlips vNoSlips (Hits.of vNoSlips vNoSlips h2) ⟨dl,dk,⟨_,d1⟩,⟨_,d2⟩,⟨_,d3⟩,⟨_,d4⟩,⟨_,d5⟩,⟨_,d6⟩⟩⟩
theorem walk {l:PySem.W.OpenLaw} {q:Program} {loose:List Str} {XP:(Str->Option Value)->Heap->Prop} {YP:World->Heap->Prop} {d:DefRec} {K:Params->PySem.W.Frag} (hn:l.most=some 63) (hdf:d.params.defaults=[])
  (hY:∀ (w:World) (h:Heap),YP w h->(K w.params).In h)
  (F:∀ (w:World) (mg:Str->Option Value) (fa:Addr) (h:Heap),(K w.params).In h->h.Ns mainGlobals mg->mg d.name=some (.ref fa) →
   ∃ fd:FuncData,(∀ (s:Shared) (u:Value),BindsTo s fd ⟨[u],[]⟩ [("script",u)])/\∀ base:Heap,(K w.params).In base->base.Ns mainGlobals mg->FnOk l.prog w (K w.params) mg base CX0 10 fa fd ["script"] (spLaw (K w.params))) :
  PySem.W.WalkO q loose XP YP l.row.toRowW d [] (fun f vs=>PySem.call f vs):=
 L3.walk_ofB (n:=63) (k:=10) (x := "script") (CX:=fun _=>CX0) (sp:=fun w=>spLaw (K w.params)) hn (by decide) hdf ⟨rfl,by decide,by decide⟩ hY F (fun _ _ a ns hl hb _ hS=>⟨a,ns,rfl,hS,hl,hb,fun _=>rfl⟩) fun _ _ _ _ _ z=>z
end K19
open PySem PySem.W PyProof.Rows
set_option maxRecDepth 100000 in
set_option maxHeartbeats 0 in
theorem PySem.Challenge.cw_vellum_k19_whole_which_papers_are_taken_holds : PySem.Challenge.rw_vellum_k19_whole_which_papers_are_taken.Holds := by
 w_on
 refine holds_law K19.said0 fun said=>?_
 refine holds_open (q:=K19.view) (loose:=[Str.ofString "VellumError",Str.ofString "NoSlips",Str.ofString "MOST_WORDS",Str.ofString "looks_alike",Str.ofString "LIKE",Str.ofString "PRICE_PLACES",Str.ofString "skip_fits",Str.ofString "step_fits",Str.ofString "words_done",Str.ofString "words_written",Str.ofString "step_after",Str.ofString "steps_walked",Str.ofString "copy_made",Str.ofString "step_price",Str.ofString "slips_price",Str.ofString "swap_writes",Str.ofString "skip_lengths",Str.ofString "knot_ways",Str.ofString "steps_stand",Str.ofString "has_shape",Str.ofString "knot_stands",Str.ofString "table_stands",Str.ofString "slips_stand",Str.ofString "_law_cell_at",Str.ofString "_law_stir",Str.ofString "_law_next",Str.ofString "_law_word",Str.ofString "_law_prices",Str.ofString "_law_eye",Str.ofString "_law_slip",Str.ofString "_law_pair",Str.ofString "_law_made_pairs",Str.ofString "_law_steps",Str.ofString "_law_alike",Str.ofString "_law_price",Str.ofString "_law_end",Str.ofString "_law_arms",Str.ofString "_law_knots",Str.ofString "_law_rest",Str.ofString "_law_told",Str.ofString "_law_table",Str.ofString "_law_does",Str.ofString "_law_made",Str.ofString "_law_bounds",Str.ofString "_law_stands",Str.ofString "_law_form",Str.ofString "_law_changed",Str.ofString "_law_last",Str.ofString "_law_steps_spoilt",Str.ofString "_law_table_spoilt",Str.ofString "_law_paper"]) (Xt:=(fun s=>PySem.W.xlAt K19.view [] s && PySem.W.recOk (PySem.W.RowW.records (PySem.W.OpenRow.toRowW PySem.Challenge.rw_vellum_k19_whole_which_papers_are_taken.row)) s)) (XP:=XL K19.view [])
  (YP:=Hook.says (PySem.W.kHook K19.hp K19.ad K19.ad_hp)) (N:=4214)
  K19.left (Hook.of _) (Hook.keeps _) (fun s e=>xl_of s (Bool.and_eq_true_iff.mp e).1)
  XL.keeps rfl rfl rfl
  (fun s e=>recFacts_of (Bool.and_eq_true_iff.mp e).2) rfl said
  (by decide +kernel)
  ⟨rfl,rfl,rfl,rfl,rfl,by decide +kernel⟩ ?hw ?hc
 case hw=>w_witness2
 k_fill
 refine K19.walk (l:=PySem.Challenge.rw_vellum_k19_whole_which_papers_are_taken) rfl rfl (fun w h Y=>PySem.W.kIn_of Y) ?F
 case F=>
  intro w mg fa h KX G hmg
  refine' K19.all_mk KX G hmg ?aLooks ?lLooks ?cLooks ?kLooks ?aSkF ?lSkF ?cSkF ?kSkF ?aFits ?lFits ?cFits ?kFits ?aWd ?lWd ?cWd ?kWd ?aWw ?lWw ?cWw ?kWw ?aAfter ?lAfter ?cAfter ?kAfter ?aWalk ?lWalk ?cWalk ?kWalk ?aCopy ?lCopy ?cCopy ?kCopy ?aPrice ?lPrice ?cPrice ?kPrice ?aCost ?lCost ?cCost ?kCost ?aSwW ?lSwW ?cSwW ?kSwW ?aSkL ?lSkL ?cSkL ?kSkL ?aWays ?lWays ?cWays ?kWays ?aStS ?lStS ?cStS ?kStS ?aShape ?lShape ?cShape ?kShape ?aKnS ?lKnS ?cKnS ?kKnS ?aTbS ?lTbS ?cTbS ?kTbS ?aStand ?lStand ?cStand ?kStand ?aCell ?lCell ?cCell ?kCell ?aStir ?lStir ?cStir ?kStir ?aNext ?lNext ?cNext ?kNext ?aWord ?lWord ?cWord ?kWord ?aPrices ?lPrices ?cPrices ?kPrices ?aEye ?lEye ?cEye ?kEye ?aSlip ?lSlip ?cSlip ?kSlip ?aPair ?lPair ?cPair ?kPair ?aMP ?lMP ?cMP ?kMP ?aLSteps ?lLSteps ?cLSteps ?kLSteps ?aLAlk ?lLAlk ?cLAlk ?kLAlk ?aLPrice ?lLPrice ?cLPrice ?kLPrice ?aEnd ?lEnd ?cEnd ?kEnd ?aArms ?lArms ?cArms ?kArms ?aKnots ?lKnots ?cKnots ?kKnots ?aLRest ?lLRest ?cLRest ?kLRest ?aLTold ?lLTold ?cLTold ?kLTold ?aLTab ?lLTab ?cLTab ?kLTab ?aDoes ?lDoes ?cDoes ?kDoes ?aMade ?lMade ?cMade ?kMade ?aLBd ?lLBd ?cLBd ?kLBd ?aLSt ?lLSt ?cLSt ?kLSt ?aForm ?lForm ?cForm ?kForm ?aChg ?lChg ?cChg ?kChg ?aLast ?lLast ?cLast ?kLast ?aSSp ?lSSp ?cSSp ?kSSp ?aTSp ?lTSp ?cTSp ?kTSp ?aPaper ?lPaper ?cPaper ?kPaper ?aLaw ?lLaw ?cLaw ?kLaw ?gLIKE ?gPRICE_PLACES ?gMOST_WORDS ?gNoSlips ?ball ?blen ?brange ?bisinstance ?btuple ?bint ?bbool ?bmin ?bmax ?bsum ?bzip ?breversed ?vNoSlips ?h2 ?dl ?dk ?d1 ?d2 ?d3 ?d4 ?d5 ?d6
  (case aLooks=>k_is)
  (case lLooks=>k_is)
  (case cLooks=>k_is)
  (case kLooks=>k_is)
  (case aSkF=>k_is)
  (case lSkF=>k_is)
  (case cSkF=>k_is)
  (case kSkF=>k_is)
  (case aFits=>k_is)
  (case lFits=>k_is)
  (case cFits=>k_is)
  (case kFits=>k_is)
  (case aWd=>k_is)
  (case lWd=>k_is)
  (case cWd=>k_is)
  (case kWd=>k_is)
  (case aWw=>k_is)
  (case lWw=>k_is)
  (case cWw=>k_is)
  (case kWw=>k_is)
  (case aAfter=>k_is)
  (case lAfter=>k_is)
  (case cAfter=>k_is)
  (case kAfter=>k_is)
  (case aWalk=>k_is)
  (case lWalk=>k_is)
  (case cWalk=>k_is)
  (case kWalk=>k_is)
  (case aCopy=>k_is)
  (case lCopy=>k_is)
  (case cCopy=>k_is)
  (case kCopy=>k_is)
  (case aPrice=>k_is)
  (case lPrice=>k_is)
  (case cPrice=>k_is)
  (case kPrice=>k_is)
  (case aCost=>k_is)
  (case lCost=>k_is)
  (case cCost=>k_is)
  (case kCost=>k_is)
  (case aSwW=>k_is)
  (case lSwW=>k_is)
  (case cSwW=>k_is)
  (case kSwW=>k_is)
  (case aSkL=>k_is)
  (case lSkL=>k_is)
  (case cSkL=>k_is)
  (case kSkL=>k_is)
  (case aWays=>k_is)
  (case lWays=>k_is)
  (case cWays=>k_is)
  (case kWays=>k_is)
  (case aStS=>k_is)
  (case lStS=>k_is)
  (case cStS=>k_is)
  (case kStS=>k_is)
  (case aShape=>k_is)
  (case lShape=>k_is)
  (case cShape=>k_is)
  (case kShape=>k_is)
  (case aKnS=>k_is)
  (case lKnS=>k_is)
  (case cKnS=>k_is)
  (case kKnS=>k_is)
  (case aTbS=>k_is)
  (case lTbS=>k_is)
  (case cTbS=>k_is)
  (case kTbS=>k_is)
  (case aStand=>k_is)
  (case lStand=>k_is)
  (case cStand=>k_is)
  (case kStand=>k_is)
  (case aCell=>k_is)
  (case lCell=>k_is)
  (case cCell=>k_is)
  (case kCell=>k_is)
  (case aStir=>k_is)
  (case lStir=>k_is)
  (case cStir=>k_is)
  (case kStir=>k_is)
  (case aNext=>k_is)
  (case lNext=>k_is)
  (case cNext=>k_is)
  (case kNext=>k_is)
  (case aWord=>k_is)
  (case lWord=>k_is)
  (case cWord=>k_is)
  (case kWord=>k_is)
  (case aPrices=>k_is)
  (case lPrices=>k_is)
  (case cPrices=>k_is)
  (case kPrices=>k_is)
  (case aEye=>k_is)
  (case lEye=>k_is)
  (case cEye=>k_is)
  (case kEye=>k_is)
  (case aSlip=>k_is)
  (case lSlip=>k_is)
  (case cSlip=>k_is)
  (case kSlip=>k_is)
  (case aPair=>k_is)
  (case lPair=>k_is)
  (case cPair=>k_is)
  (case kPair=>k_is)
  (case aMP=>k_is)
  (case lMP=>k_is)
  (case cMP=>k_is)
  (case kMP=>k_is)
  (case aLSteps=>k_is)
  (case lLSteps=>k_is)
  (case cLSteps=>k_is)
  (case kLSteps=>k_is)
  (case aLAlk=>k_is)
  (case lLAlk=>k_is)
  (case cLAlk=>k_is)
  (case kLAlk=>k_is)
  (case aLPrice=>k_is)
  (case lLPrice=>k_is)
  (case cLPrice=>k_is)
  (case kLPrice=>k_is)
  (case aEnd=>k_is)
  (case lEnd=>k_is)
  (case cEnd=>k_is)
  (case kEnd=>k_is)
  (case aArms=>k_is)
  (case lArms=>k_is)
  (case cArms=>k_is)
  (case kArms=>k_is)
  (case aKnots=>k_is)
  (case lKnots=>k_is)
  (case cKnots=>k_is)
  (case kKnots=>k_is)
  (case aLRest=>k_is)
  (case lLRest=>k_is)
  (case cLRest=>k_is)
  (case kLRest=>k_is)
  (case aLTold=>k_is)
  (case lLTold=>k_is)
  (case cLTold=>k_is)
  (case kLTold=>k_is)
  (case aLTab=>k_is)
  (case lLTab=>k_is)
  (case cLTab=>k_is)
  (case kLTab=>k_is)
  (case aDoes=>k_is)
  (case lDoes=>k_is)
  (case cDoes=>k_is)
  (case kDoes=>k_is)
  (case aMade=>k_is)
  (case lMade=>k_is)
  (case cMade=>k_is)
  (case kMade=>k_is)
  (case aLBd=>k_is)
  (case lLBd=>k_is)
  (case cLBd=>k_is)
  (case kLBd=>k_is)
  (case aLSt=>k_is)
  (case lLSt=>k_is)
  (case cLSt=>k_is)
  (case kLSt=>k_is)
  (case aForm=>k_is)
  (case lForm=>k_is)
  (case cForm=>k_is)
  (case kForm=>k_is)
  (case aChg=>k_is)
  (case lChg=>k_is)
  (case cChg=>k_is)
  (case kChg=>k_is)
  (case aLast=>k_is)
  (case lLast=>k_is)
  (case cLast=>k_is)
  (case kLast=>k_is)
  (case aSSp=>k_is)
  (case lSSp=>k_is)
  (case cSSp=>k_is)
  (case kSSp=>k_is)
  (case aTSp=>k_is)
  (case lTSp=>k_is)
  (case cTSp=>k_is)
  (case kTSp=>k_is)
  (case aPaper=>k_is)
  (case lPaper=>k_is)
  (case cPaper=>k_is)
  (case kPaper=>k_is)
  (case aLaw=>k_is)
  (case lLaw=>k_is)
  (case cLaw=>k_is)
  (case kLaw=>k_is)
  (case gLIKE=>k_is)
  (case gPRICE_PLACES=>k_is)
  (case gMOST_WORDS=>k_is)
  (case gNoSlips=>k_is)
  (case ball=>k_is)
  (case blen=>k_is)
  (case brange=>k_is)
  (case bisinstance=>k_is)
  (case btuple=>k_is)
  (case bint=>k_is)
  (case bbool=>k_is)
  (case bmin=>k_is)
  (case bmax=>k_is)
  (case bsum=>k_is)
  (case bzip=>k_is)
  (case breversed=>k_is)
  (case vNoSlips=>k_exc)
  (case h2=>k_is)
  (case dl=>k_is)
  (case dk=>k_keys)
  (case d1=>k_is)
  (case d2=>k_is)
  (case d3=>k_is)
  (case d4=>k_is)
  (case d5=>k_is)
  (case d6=>k_is)
