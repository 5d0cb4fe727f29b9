import PyProof.Rows.All
import Wide.All
import OpenK.AllK
import Wide.FinOn
import Lean
import PyProof.EqAt
import PyProof.EqKinds
import PyProof.TupleCall
import PyProof.ListMulRoad
import PyProof.Rows.ListMul
import KE.KSortTup
import PyProof.TupleOfSeq
import PySem.Challenge.RW_vellum_k15_whole_small_rows_gone_through
set_option Elab.async false
set_option linter.all false
set_option maxRecDepth 100000
set_option maxHeartbeats 4000000
namespace L2
open PySem PySem.Spec PyProof.Rows
def defArgs (s:Stmt):Arguments:=match s with
 | .FunctionDef _ a _ _ _ _ _ _ _ _=>a
 | _=>{ posonlyargs:=[],args:=[],vararg:=none,kwonlyargs:=[],kw_defaults:=[],kwarg:=none,defaults:=[] }
def defBody (s:Stmt):List Stmt:=match s with
 | .FunctionDef _ _ b _ _ _ _ _ _ _=>b
 | _=>[]
def defScope (s:Stmt):Scope:=match s with
 | .FunctionDef _ _ _ _ _ _ sc _ _ _=>sc
 | _=>{ kind:=.function,names:=[],isGenerator:=false,isCoroutine:=false }
end L2
namespace K15
open PySem PySem.Spec PyProof.Rows L2
def top (i:Nat):Stmt:=PySem.Challenge.pw_vellum_k15_whole_small_rows_gone_through.main.body.getD i (.Pass ⟨0,0,0,0⟩)
abbrev sLooks:Stmt:=top 1
abbrev sPrice:Stmt:=top 5
abbrev sSwW:Stmt:=top 7
abbrev sSkL:Stmt:=top 8
abbrev sWays:Stmt:=top 9
abbrev sEmp:Stmt:=top 10
abbrev sTld:Stmt:=top 11
abbrev sPtab:Stmt:=top 12
abbrev sRtab:Stmt:=top 13
abbrev sCW:Stmt:=top 16
abbrev sFC:Stmt:=top 17
abbrev sLs:Stmt:=top 18
abbrev sNet:Stmt:=top 19
abbrev sMT:Stmt:=top 20
abbrev sMF:Stmt:=top 21
abbrev sCM:Stmt:=top 22
abbrev sSure:Stmt:=top 23
abbrev sCell:Stmt:=top 25
abbrev sStir:Stmt:=top 26
abbrev sNext:Stmt:=top 27
abbrev sSame:Stmt:=top 28
abbrev sWord:Stmt:=top 29
abbrev sPrices:Stmt:=top 30
abbrev sEye:Stmt:=top 31
abbrev sSlip:Stmt:=top 32
abbrev sPair:Stmt:=top 33
abbrev sPairs:Stmt:=top 34
abbrev sLSteps:Stmt:=top 35
abbrev sLAlk:Stmt:=top 36
abbrev sLPrice:Stmt:=top 37
abbrev sEnd:Stmt:=top 38
abbrev sArms:Stmt:=top 39
abbrev sKnots:Stmt:=top 40
abbrev sARows:Stmt:=top 41
abbrev sInAll:Stmt:=top 42
abbrev sLaw:Stmt:=top 43
noncomputable abbrev en (P:Params) (z:Str) (t:Nat) (v:Value):DictEntry:=⟨PyData.keyHash P z,.str z t,v⟩
noncomputable abbrev fn (n:String) (s:Stmt) (m:String) (t c:Nat):Obj:=⟨.type "function",none,.func (PySem.W.fnOf (Str.ofString n) (Str.ofString n) (defArgs s) (defBody s) (defScope s) .none .none .none (.str (Str.ofString m) t) none (.ref c) .none),#[]⟩
noncomputable abbrev co (n:String) (t u v a b c r l q y m k z:Nat):Obj:={ cls:=.type "code",data:=.fields #[.str (Str.ofString n) t,.str (Str.ofString n) u,.str (Str.ofString "/claim/cut.py") v,.int a 0,.int b 0,.int 0 0,.int 0 0,.int c 0,.ref r,.bool true,.int l 0,.ref q,.none,.none,.none,.ref y,.int m 0,.int k 0,.str (Str.ofString "/claim/cut.py") z] }
noncomputable def hp:Params->PySem.W.Frag:=fun P=>
 (nat_lit 2,({ cls:=.none,data:=.dict #[] }:Obj)) ::
 (nat_lit 3,({ cls:=.type "dict",data:=.dict #[en P (Str.ofString "__name__") 165 (.str (Str.ofString "law_vellum_k15_whole_small_rows_gone_through") 390),en P (Str.ofString "__doc__") 166 (.none),en P (Str.ofString "__package__") 167 (.none),en P (Str.ofString "__loader__") 168 (.builtin "__main__.__loader__#opaque"),en P (Str.ofString "__spec__") 169 (.none),en P (Str.ofString "__annotations__") 170 (.ref 6),en P (Str.ofString "__builtins__") 171 (.ref 4),en P (Str.ofString "__file__") 173 (.str (Str.ofString "/claim/cut.py") 172),en P (Str.ofString "__cached__") 174 (.none),en P (Str.ofString "looks_alike") 194 (.ref 19),en P (Str.ofString "LIKE") 198 (.int 0 197),en P (Str.ofString "PRICE_PLACES") 217 (.ref 20),en P (Str.ofString "step_price") 228 (.ref 27),en P (Str.ofString "swap_writes") 240 (.ref 34),en P (Str.ofString "skip_lengths") 246 (.ref 39),en P (Str.ofString "knot_ways") 252 (.ref 44),en P (Str.ofString "empty_table") 258 (.ref 49),en P (Str.ofString "table_told") 264 (.ref 54),en P (Str.ofString "price_table") 280 (.ref 61),en P (Str.ofString "rest_table") 286 (.ref 66),en P (Str.ofString "START") 291 (.ref 67),en P (Str.ofString "cheapest_ways") 307 (.ref 74),en P (Str.ofString "first_cheapest") 321 (.ref 81),en P (Str.ofString "least_slips") 331 (.ref 88),en P (Str.ofString "cheapest_net") 344 (.ref 95),en P (Str.ofString "many_to") 357 (.ref 102),en P (Str.ofString "many_from") 363 (.ref 107),en P (Str.ofString "cheapest_many") 372 (.ref 114),en P (Str.ofString "sure_pairs") 389 (.ref 121),en P (Str.ofString "_law_cell_at") 399 (.ref 128),en P (Str.ofString "_law_stir") 406 (.ref 135),en P (Str.ofString "_law_next") 413 (.ref 142),en P (Str.ofString "_law_same") 422 (.ref 149),en P (Str.ofString "_law_word") 436 (.ref 156),en P (Str.ofString "_law_prices") 447 (.ref 163),en P (Str.ofString "_law_eye") 453 (.ref 168),en P (Str.ofString "_law_slip") 467 (.ref 175),en P (Str.ofString "_law_pair") 483 (.ref 182),en P (Str.ofString "_law_pairs") 497 (.ref 189),en P (Str.ofString "_law_steps") 512 (.ref 196),en P (Str.ofString "_law_alike") 518 (.ref 201),en P (Str.ofString "_law_price") 528 (.ref 208),en P (Str.ofString "_law_end") 538 (.ref 215),en P (Str.ofString "_law_arms") 551 (.ref 222),en P (Str.ofString "_law_knots") 562 (.ref 229),en P (Str.ofString "_law_all_rows") 578 (.ref 236),en P (Str.ofString "_law_in_all") 584 (.ref 241),en P (Str.ofString "law") 590 (.ref 246)] 48 }:Obj)) ::
 (nat_lit 18,(co "looks_alike" 189 190 191 2 2 3 15 181 16 17 192 2 193:Obj)) ::
 (nat_lit 19,(fn "looks_alike" sLooks "vellum.words" 187 18:Obj)) ::
 (nat_lit 20,({ cls:=.type "dict",data:=.dict #[en P (Str.ofString "turn") 199 (.int 1 200),en P (Str.ofString "lose") 201 (.int 2 202),en P (Str.ofString "add") 203 (.int 3 204),en P (Str.ofString "twice") 205 (.int 4 206),en P (Str.ofString "swap") 207 (.int 5 208),en P (Str.ofString "skip") 209 (.int 6 210)] 6 }:Obj)) ::
 (nat_lit 26,({ cls:=.type "code",data:=.fields #[.str (Str.ofString "step_price") 218,.str (Str.ofString "step_price") 219,.str (Str.ofString "/claim/cut.py") 220,.int 10 0,.int 4 0,.int 0 0,.int 0 0,.int 3 0,.ref 21,.bool true,.int 181 0,.ref 22,.none,.ref 23,.ref 24,.ref 25,.int 226 0,.int 10 0,.str (Str.ofString "/claim/cut.py") 227] }:Obj)) ::
 (nat_lit 27,(fn "step_price" sPrice "vellum.slips" 195 26:Obj)) ::
 (nat_lit 33,({ cls:=.type "code",data:=.fields #[.str (Str.ofString "swap_writes") 231,.str (Str.ofString "swap_writes") 232,.str (Str.ofString "/claim/cut.py") 233,.int 18 0,.int 4 0,.int 0 0,.int 0 0,.int 3 0,.ref 28,.bool true,.int 181 0,.ref 29,.none,.ref 30,.ref 31,.ref 32,.int 238 0,.int 18 0,.str (Str.ofString "/claim/cut.py") 239] }:Obj)) ::
 (nat_lit 34,(fn "swap_writes" sSwW "vellum.grid" 229 33:Obj)) ::
 (nat_lit 38,(co "skip_lengths" 241 242 243 22 2 3 35 181 36 37 244 22 245:Obj)) ::
 (nat_lit 39,(fn "skip_lengths" sSkL "vellum.grid" 229 38:Obj)) ::
 (nat_lit 43,(co "knot_ways" 247 248 249 26 4 3 40 181 41 42 250 26 251:Obj)) ::
 (nat_lit 44,(fn "knot_ways" sWays "vellum.grid" 229 43:Obj)) ::
 (nat_lit 48,(co "empty_table" 253 254 255 41 2 3 45 181 46 47 256 41 257:Obj)) ::
 (nat_lit 49,(fn "empty_table" sEmp "vellum.grid" 229 48:Obj)) ::
 (nat_lit 53,(co "table_told" 259 260 261 43 1 3 50 181 51 52 262 43 263:Obj)) ::
 (nat_lit 54,(fn "table_told" sTld "vellum.grid" 229 53:Obj)) ::
 (nat_lit 60,({ cls:=.type "code",data:=.fields #[.str (Str.ofString "price_table") 265,.str (Str.ofString "price_table") 266,.str (Str.ofString "/claim/cut.py") 267,.int 45 0,.int 3 0,.int 0 0,.int 0 0,.int 3 0,.ref 55,.bool true,.int 181 0,.ref 56,.none,.ref 57,.ref 58,.ref 59,.int 278 0,.int 45 0,.str (Str.ofString "/claim/cut.py") 279] }:Obj)) ::
 (nat_lit 61,(fn "price_table" sPtab "vellum.grid" 229 60:Obj)) ::
 (nat_lit 65,(co "rest_table" 281 282 283 55 3 3 62 181 63 64 284 55 285:Obj)) ::
 (nat_lit 66,(fn "rest_table" sRtab "vellum.grid" 229 65:Obj)) ::
 (nat_lit 67,({ cls:=.type "tuple",data:=.seq #[.int 0 289,.int 0 290] }:Obj)) ::
 (nat_lit 73,({ cls:=.type "code",data:=.fields #[.str (Str.ofString "cheapest_ways") 292,.str (Str.ofString "cheapest_ways") 293,.str (Str.ofString "/claim/cut.py") 294,.int 65 0,.int 6 0,.int 0 0,.int 0 0,.int 3 0,.ref 68,.bool true,.int 181 0,.ref 69,.none,.ref 70,.ref 71,.ref 72,.int 305 0,.int 65 0,.str (Str.ofString "/claim/cut.py") 306] }:Obj)) ::
 (nat_lit 74,(fn "cheapest_ways" sCW "vellum.least" 287 73:Obj)) ::
 (nat_lit 80,({ cls:=.type "code",data:=.fields #[.str (Str.ofString "first_cheapest") 308,.str (Str.ofString "first_cheapest") 309,.str (Str.ofString "/claim/cut.py") 310,.int 71 0,.int 3 0,.int 0 0,.int 0 0,.int 3 0,.ref 75,.bool true,.int 181 0,.ref 76,.none,.ref 77,.ref 78,.ref 79,.int 319 0,.int 71 0,.str (Str.ofString "/claim/cut.py") 320] }:Obj)) ::
 (nat_lit 81,(fn "first_cheapest" sFC "vellum.least" 287 80:Obj)) ::
 (nat_lit 87,({ cls:=.type "code",data:=.fields #[.str (Str.ofString "least_slips") 322,.str (Str.ofString "least_slips") 323,.str (Str.ofString "/claim/cut.py") 324,.int 82 0,.int 3 0,.int 0 0,.int 0 0,.int 3 0,.ref 82,.bool true,.int 181 0,.ref 83,.none,.ref 84,.ref 85,.ref 86,.int 329 0,.int 82 0,.str (Str.ofString "/claim/cut.py") 330] }:Obj)) ::
 (nat_lit 88,(fn "least_slips" sLs "vellum.least" 287 87:Obj)) ::
 (nat_lit 94,({ cls:=.type "code",data:=.fields #[.str (Str.ofString "cheapest_net") 332,.str (Str.ofString "cheapest_net") 333,.str (Str.ofString "/claim/cut.py") 334,.int 85 0,.int 3 0,.int 0 0,.int 0 0,.int 3 0,.ref 89,.bool true,.int 181 0,.ref 90,.none,.ref 91,.ref 92,.ref 93,.int 342 0,.int 85 0,.str (Str.ofString "/claim/cut.py") 343] }:Obj)) ::
 (nat_lit 95,(fn "cheapest_net" sNet "vellum.least" 287 94:Obj)) ::
 (nat_lit 101,({ cls:=.type "code",data:=.fields #[.str (Str.ofString "many_to") 345,.str (Str.ofString "many_to") 346,.str (Str.ofString "/claim/cut.py") 347,.int 92 0,.int 1 0,.int 0 0,.int 0 0,.int 3 0,.ref 96,.bool true,.int 181 0,.ref 97,.none,.ref 98,.ref 99,.ref 100,.int 355 0,.int 92 0,.str (Str.ofString "/claim/cut.py") 356] }:Obj)) ::
 (nat_lit 102,(fn "many_to" sMT "vellum.least" 287 101:Obj)) ::
 (nat_lit 106,(co "many_from" 358 359 360 99 1 3 103 181 104 105 361 99 362:Obj)) ::
 (nat_lit 107,(fn "many_from" sMF "vellum.least" 287 106:Obj)) ::
 (nat_lit 113,({ cls:=.type "code",data:=.fields #[.str (Str.ofString "cheapest_many") 364,.str (Str.ofString "cheapest_many") 365,.str (Str.ofString "/claim/cut.py") 366,.int 105 0,.int 3 0,.int 0 0,.int 0 0,.int 3 0,.ref 108,.bool true,.int 181 0,.ref 109,.none,.ref 110,.ref 111,.ref 112,.int 370 0,.int 105 0,.str (Str.ofString "/claim/cut.py") 371] }:Obj)) ::
 (nat_lit 114,(fn "cheapest_many" sCM "vellum.least" 287 113:Obj)) ::
 (nat_lit 120,({ cls:=.type "code",data:=.fields #[.str (Str.ofString "sure_pairs") 373,.str (Str.ofString "sure_pairs") 374,.str (Str.ofString "/claim/cut.py") 375,.int 107 0,.int 3 0,.int 0 0,.int 0 0,.int 3 0,.ref 115,.bool true,.int 181 0,.ref 116,.none,.ref 117,.ref 118,.ref 119,.int 387 0,.int 107 0,.str (Str.ofString "/claim/cut.py") 388] }:Obj)) ::
 (nat_lit 121,(fn "sure_pairs" sSure "vellum.least" 287 120:Obj)) ::
 (nat_lit 127,({ cls:=.type "code",data:=.fields #[.str (Str.ofString "_law_cell_at") 392,.str (Str.ofString "_law_cell_at") 393,.str (Str.ofString "/claim/cut.py") 394,.int 118 0,.int 2 0,.int 0 0,.int 0 0,.int 3 0,.ref 122,.bool true,.int 181 0,.ref 123,.none,.ref 124,.ref 125,.ref 126,.int 397 0,.int 118 0,.str (Str.ofString "/claim/cut.py") 398] }:Obj)) ::
 (nat_lit 128,(fn "_law_cell_at" sCell "law_vellum_k15_whole_small_rows_gone_through" 390 127:Obj)) ::
 (nat_lit 134,({ cls:=.type "code",data:=.fields #[.str (Str.ofString "_law_stir") 400,.str (Str.ofString "_law_stir") 401,.str (Str.ofString "/claim/cut.py") 402,.int 122 0,.int 1 0,.int 0 0,.int 0 0,.int 3 0,.ref 129,.bool true,.int 181 0,.ref 130,.none,.ref 131,.ref 132,.ref 133,.int 404 0,.int 122 0,.str (Str.ofString "/claim/cut.py") 405] }:Obj)) ::
 (nat_lit 135,(fn "_law_stir" sStir "law_vellum_k15_whole_small_rows_gone_through" 390 134:Obj)) ::
 (nat_lit 141,({ cls:=.type "code",data:=.fields #[.str (Str.ofString "_law_next") 407,.str (Str.ofString "_law_next") 408,.str (Str.ofString "/claim/cut.py") 409,.int 124 0,.int 1 0,.int 0 0,.int 0 0,.int 3 0,.ref 136,.bool true,.int 181 0,.ref 137,.none,.ref 138,.ref 139,.ref 140,.int 411 0,.int 124 0,.str (Str.ofString "/claim/cut.py") 412] }:Obj)) ::
 (nat_lit 142,(fn "_law_next" sNext "law_vellum_k15_whole_small_rows_gone_through" 390 141:Obj)) ::
 (nat_lit 148,({ cls:=.type "code",data:=.fields #[.str (Str.ofString "_law_same") 414,.str (Str.ofString "_law_same") 415,.str (Str.ofString "/claim/cut.py") 416,.int 126 0,.int 2 0,.int 0 0,.int 0 0,.int 3 0,.ref 143,.bool true,.int 181 0,.ref 144,.none,.ref 145,.ref 146,.ref 147,.int 420 0,.int 126 0,.str (Str.ofString "/claim/cut.py") 421] }:Obj)) ::
 (nat_lit 149,(fn "_law_same" sSame "law_vellum_k15_whole_small_rows_gone_through" 390 148:Obj)) ::
 (nat_lit 155,({ cls:=.type "code",data:=.fields #[.str (Str.ofString "_law_word") 423,.str (Str.ofString "_law_word") 424,.str (Str.ofString "/claim/cut.py") 425,.int 141 0,.int 2 0,.int 0 0,.int 0 0,.int 3 0,.ref 150,.bool true,.int 181 0,.ref 151,.none,.ref 152,.ref 153,.ref 154,.int 434 0,.int 141 0,.str (Str.ofString "/claim/cut.py") 435] }:Obj)) ::
 (nat_lit 156,(fn "_law_word" sWord "law_vellum_k15_whole_small_rows_gone_through" 390 155:Obj)) ::
 (nat_lit 162,({ cls:=.type "code",data:=.fields #[.str (Str.ofString "_law_prices") 437,.str (Str.ofString "_law_prices") 438,.str (Str.ofString "/claim/cut.py") 439,.int 155 0,.int 1 0,.int 0 0,.int 0 0,.int 3 0,.ref 157,.bool true,.int 181 0,.ref 158,.none,.ref 159,.ref 160,.ref 161,.int 445 0,.int 155 0,.str (Str.ofString "/claim/cut.py") 446] }:Obj)) ::
 (nat_lit 163,(fn "_law_prices" sPrices "law_vellum_k15_whole_small_rows_gone_through" 390 162:Obj)) ::
 (nat_lit 167,(co "_law_eye" 448 449 450 167 4 3 164 181 165 166 451 167 452:Obj)) ::
 (nat_lit 168,(fn "_law_eye" sEye "law_vellum_k15_whole_small_rows_gone_through" 390 167:Obj)) ::
 (nat_lit 174,({ cls:=.type "code",data:=.fields #[.str (Str.ofString "_law_slip") 454,.str (Str.ofString "_law_slip") 455,.str (Str.ofString "/claim/cut.py") 456,.int 170 0,.int 5 0,.int 0 0,.int 0 0,.int 3 0,.ref 169,.bool true,.int 181 0,.ref 170,.none,.ref 171,.ref 172,.ref 173,.int 465 0,.int 170 0,.str (Str.ofString "/claim/cut.py") 466] }:Obj)) ::
 (nat_lit 175,(fn "_law_slip" sSlip "law_vellum_k15_whole_small_rows_gone_through" 390 174:Obj)) ::
 (nat_lit 181,({ cls:=.type "code",data:=.fields #[.str (Str.ofString "_law_pair") 468,.str (Str.ofString "_law_pair") 469,.str (Str.ofString "/claim/cut.py") 470,.int 195 0,.int 3 0,.int 0 0,.int 0 0,.int 3 0,.ref 176,.bool true,.int 181 0,.ref 177,.none,.ref 178,.ref 179,.ref 180,.int 481 0,.int 195 0,.str (Str.ofString "/claim/cut.py") 482] }:Obj)) ::
 (nat_lit 182,(fn "_law_pair" sPair "law_vellum_k15_whole_small_rows_gone_through" 390 181:Obj)) ::
 (nat_lit 188,({ cls:=.type "code",data:=.fields #[.str (Str.ofString "_law_pairs") 484,.str (Str.ofString "_law_pairs") 485,.str (Str.ofString "/claim/cut.py") 486,.int 209 0,.int 2 0,.int 0 0,.int 0 0,.int 3 0,.ref 183,.bool true,.int 181 0,.ref 184,.none,.ref 185,.ref 186,.ref 187,.int 495 0,.int 209 0,.str (Str.ofString "/claim/cut.py") 496] }:Obj)) ::
 (nat_lit 189,(fn "_law_pairs" sPairs "law_vellum_k15_whole_small_rows_gone_through" 390 188:Obj)) ::
 (nat_lit 195,({ cls:=.type "code",data:=.fields #[.str (Str.ofString "_law_steps") 498,.str (Str.ofString "_law_steps") 499,.str (Str.ofString "/claim/cut.py") 500,.int 223 0,.int 4 0,.int 0 0,.int 0 0,.int 3 0,.ref 190,.bool true,.int 181 0,.ref 191,.none,.ref 192,.ref 193,.ref 194,.int 510 0,.int 223 0,.str (Str.ofString "/claim/cut.py") 511] }:Obj)) ::
 (nat_lit 196,(fn "_law_steps" sLSteps "law_vellum_k15_whole_small_rows_gone_through" 390 195:Obj)) ::
 (nat_lit 200,(co "_law_alike" 513 514 515 244 2 3 197 181 198 199 516 244 517:Obj)) ::
 (nat_lit 201,(fn "_law_alike" sLAlk "law_vellum_k15_whole_small_rows_gone_through" 390 200:Obj)) ::
 (nat_lit 207,({ cls:=.type "code",data:=.fields #[.str (Str.ofString "_law_price") 519,.str (Str.ofString "_law_price") 520,.str (Str.ofString "/claim/cut.py") 521,.int 246 0,.int 4 0,.int 0 0,.int 0 0,.int 3 0,.ref 202,.bool true,.int 181 0,.ref 203,.none,.ref 204,.ref 205,.ref 206,.int 526 0,.int 246 0,.str (Str.ofString "/claim/cut.py") 527] }:Obj)) ::
 (nat_lit 208,(fn "_law_price" sLPrice "law_vellum_k15_whole_small_rows_gone_through" 390 207:Obj)) ::
 (nat_lit 214,({ cls:=.type "code",data:=.fields #[.str (Str.ofString "_law_end") 529,.str (Str.ofString "_law_end") 530,.str (Str.ofString "/claim/cut.py") 531,.int 252 0,.int 3 0,.int 0 0,.int 0 0,.int 3 0,.ref 209,.bool true,.int 181 0,.ref 210,.none,.ref 211,.ref 212,.ref 213,.int 536 0,.int 252 0,.str (Str.ofString "/claim/cut.py") 537] }:Obj)) ::
 (nat_lit 215,(fn "_law_end" sEnd "law_vellum_k15_whole_small_rows_gone_through" 390 214:Obj)) ::
 (nat_lit 221,({ cls:=.type "code",data:=.fields #[.str (Str.ofString "_law_arms") 539,.str (Str.ofString "_law_arms") 540,.str (Str.ofString "/claim/cut.py") 541,.int 257 0,.int 5 0,.int 0 0,.int 0 0,.int 3 0,.ref 216,.bool true,.int 181 0,.ref 217,.none,.ref 218,.ref 219,.ref 220,.int 549 0,.int 257 0,.str (Str.ofString "/claim/cut.py") 550] }:Obj)) ::
 (nat_lit 222,(fn "_law_arms" sArms "law_vellum_k15_whole_small_rows_gone_through" 390 221:Obj)) ::
 (nat_lit 228,({ cls:=.type "code",data:=.fields #[.str (Str.ofString "_law_knots") 552,.str (Str.ofString "_law_knots") 553,.str (Str.ofString "/claim/cut.py") 554,.int 262 0,.int 2 0,.int 0 0,.int 0 0,.int 3 0,.ref 223,.bool true,.int 181 0,.ref 224,.none,.ref 225,.ref 226,.ref 227,.int 560 0,.int 262 0,.str (Str.ofString "/claim/cut.py") 561] }:Obj)) ::
 (nat_lit 229,(fn "_law_knots" sKnots "law_vellum_k15_whole_small_rows_gone_through" 390 228:Obj)) ::
 (nat_lit 235,({ cls:=.type "code",data:=.fields #[.str (Str.ofString "_law_all_rows") 563,.str (Str.ofString "_law_all_rows") 564,.str (Str.ofString "/claim/cut.py") 565,.int 268 0,.int 3 0,.int 0 0,.int 0 0,.int 3 0,.ref 230,.bool true,.int 181 0,.ref 231,.none,.ref 232,.ref 233,.ref 234,.int 576 0,.int 268 0,.str (Str.ofString "/claim/cut.py") 577] }:Obj)) ::
 (nat_lit 236,(fn "_law_all_rows" sARows "law_vellum_k15_whole_small_rows_gone_through" 390 235:Obj)) ::
 (nat_lit 240,(co "_law_in_all" 579 580 581 280 1 3 237 181 238 239 582 280 583:Obj)) ::
 (nat_lit 241,(fn "_law_in_all" sInAll "law_vellum_k15_whole_small_rows_gone_through" 390 240:Obj)) ::
 (nat_lit 245,(co "law" 585 586 587 282 1 3 242 181 243 244 588 282 589:Obj)) ::
 (nat_lit 246,(fn "law" sLaw "law_vellum_k15_whole_small_rows_gone_through" 390 245:Obj)) ::
 []
noncomputable def view:Program:={ PySem.Challenge.pw_vellum_k15_whole_small_rows_gone_through with main:={ (PySem.Challenge.pw_vellum_k15_whole_small_rows_gone_through).main with body:=[top 43] } }
abbrev ad:List Addr:=nat_lit 2 :: nat_lit 3 :: nat_lit 18 :: nat_lit 19 :: nat_lit 20 :: nat_lit 26 :: nat_lit 27 :: nat_lit 33 :: nat_lit 34 :: nat_lit 38 :: nat_lit 39 :: nat_lit 43 :: nat_lit 44 :: nat_lit 48 :: nat_lit 49 :: nat_lit 53 :: nat_lit 54 :: nat_lit 60 :: nat_lit 61 :: nat_lit 65 :: nat_lit 66 :: nat_lit 67 :: nat_lit 73 :: nat_lit 74 :: nat_lit 80 :: nat_lit 81 :: nat_lit 87 :: nat_lit 88 :: nat_lit 94 :: nat_lit 95 :: nat_lit 101 :: nat_lit 102 :: nat_lit 106 :: nat_lit 107 :: nat_lit 113 :: nat_lit 114 :: nat_lit 120 :: nat_lit 121 :: nat_lit 127 :: nat_lit 128 :: nat_lit 134 :: nat_lit 135 :: nat_lit 141 :: nat_lit 142 :: nat_lit 148 :: nat_lit 149 :: nat_lit 155 :: nat_lit 156 :: nat_lit 162 :: nat_lit 163 :: nat_lit 167 :: nat_lit 168 :: nat_lit 174 :: nat_lit 175 :: nat_lit 181 :: nat_lit 182 :: nat_lit 188 :: nat_lit 189 :: nat_lit 195 :: nat_lit 196 :: nat_lit 200 :: nat_lit 201 :: nat_lit 207 :: nat_lit 208 :: nat_lit 214 :: nat_lit 215 :: nat_lit 221 :: nat_lit 222 :: nat_lit 228 :: nat_lit 229 :: nat_lit 235 :: nat_lit 236 :: nat_lit 240 :: nat_lit 241 :: nat_lit 245 :: nat_lit 246 :: []
theorem ad_hp:∀ P,ad=(hp P).map (·.1):=fun _=>by kernel_rfl
theorem left_false:∀ w:World,(fun w=>(PySem.W.openEnds PySem.treeTable PySem.Challenge.pw_vellum_k15_whole_small_rows_gone_through w 2738).map (fun s=>(PySem.W.openSeen K15.view [Str.ofString "looks_alike",Str.ofString "LIKE",Str.ofString "PRICE_PLACES",Str.ofString "step_price",Str.ofString "swap_writes",Str.ofString "skip_lengths",Str.ofString "knot_ways",Str.ofString "empty_table",Str.ofString "table_told",Str.ofString "price_table",Str.ofString "rest_table",Str.ofString "START",Str.ofString "cheapest_ways",Str.ofString "first_cheapest",Str.ofString "least_slips",Str.ofString "cheapest_net",Str.ofString "many_to",Str.ofString "many_from",Str.ofString "cheapest_many",Str.ofString "sure_pairs",Str.ofString "_law_cell_at",Str.ofString "_law_stir",Str.ofString "_law_next",Str.ofString "_law_same",Str.ofString "_law_word",Str.ofString "_law_prices",Str.ofString "_law_eye",Str.ofString "_law_slip",Str.ofString "_law_pair",Str.ofString "_law_pairs",Str.ofString "_law_steps",Str.ofString "_law_alike",Str.ofString "_law_price",Str.ofString "_law_end",Str.ofString "_law_arms",Str.ofString "_law_knots",Str.ofString "_law_all_rows",Str.ofString "_law_in_all"] (importedModules (PySem.Challenge.pw_vellum_k15_whole_small_rows_gone_through).main.body) (fun s=>PySem.W.xlAt K15.view [] s && PySem.W.recOk (PySem.W.RowW.records (PySem.W.OpenRow.toRowW PySem.Challenge.rw_vellum_k15_whole_small_rows_gone_through.row)) s) true s,PySem.W.Hook.obs (PySem.W.kHook K15.hp K15.ad K15.ad_hp) s))=some (PySem.W.openGood K15.view [Str.ofString "looks_alike",Str.ofString "LIKE",Str.ofString "PRICE_PLACES",Str.ofString "step_price",Str.ofString "swap_writes",Str.ofString "skip_lengths",Str.ofString "knot_ways",Str.ofString "empty_table",Str.ofString "table_told",Str.ofString "price_table",Str.ofString "rest_table",Str.ofString "START",Str.ofString "cheapest_ways",Str.ofString "first_cheapest",Str.ofString "least_slips",Str.ofString "cheapest_net",Str.ofString "many_to",Str.ofString "many_from",Str.ofString "cheapest_many",Str.ofString "sure_pairs",Str.ofString "_law_cell_at",Str.ofString "_law_stir",Str.ofString "_law_next",Str.ofString "_law_same",Str.ofString "_law_word",Str.ofString "_law_prices",Str.ofString "_law_eye",Str.ofString "_law_slip",Str.ofString "_law_pair",Str.ofString "_law_pairs",Str.ofString "_law_steps",Str.ofString "_law_alike",Str.ofString "_law_price",Str.ofString "_law_end",Str.ofString "_law_arms",Str.ofString "_law_knots",Str.ofString "_law_all_rows",Str.ofString "_law_in_all"],PySem.W.Hook.val (PySem.W.kHook K15.hp K15.ad K15.ad_hp) w)) (w.withFollow "special-get-raises" false):=fun w=>by kernel_rfl
theorem left_true:∀ w:World,(fun w=>(PySem.W.openEnds PySem.treeTable PySem.Challenge.pw_vellum_k15_whole_small_rows_gone_through w 2738).map (fun s=>(PySem.W.openSeen K15.view [Str.ofString "looks_alike",Str.ofString "LIKE",Str.ofString "PRICE_PLACES",Str.ofString "step_price",Str.ofString "swap_writes",Str.ofString "skip_lengths",Str.ofString "knot_ways",Str.ofString "empty_table",Str.ofString "table_told",Str.ofString "price_table",Str.ofString "rest_table",Str.ofString "START",Str.ofString "cheapest_ways",Str.ofString "first_cheapest",Str.ofString "least_slips",Str.ofString "cheapest_net",Str.ofString "many_to",Str.ofString "many_from",Str.ofString "cheapest_many",Str.ofString "sure_pairs",Str.ofString "_law_cell_at",Str.ofString "_law_stir",Str.ofString "_law_next",Str.ofString "_law_same",Str.ofString "_law_word",Str.ofString "_law_prices",Str.ofString "_law_eye",Str.ofString "_law_slip",Str.ofString "_law_pair",Str.ofString "_law_pairs",Str.ofString "_law_steps",Str.ofString "_law_alike",Str.ofString "_law_price",Str.ofString "_law_end",Str.ofString "_law_arms",Str.ofString "_law_knots",Str.ofString "_law_all_rows",Str.ofString "_law_in_all"] (importedModules (PySem.Challenge.pw_vellum_k15_whole_small_rows_gone_through).main.body) (fun s=>PySem.W.xlAt K15.view [] s && PySem.W.recOk (PySem.W.RowW.records (PySem.W.OpenRow.toRowW PySem.Challenge.rw_vellum_k15_whole_small_rows_gone_through.row)) s) true s,PySem.W.Hook.obs (PySem.W.kHook K15.hp K15.ad K15.ad_hp) s))=some (PySem.W.openGood K15.view [Str.ofString "looks_alike",Str.ofString "LIKE",Str.ofString "PRICE_PLACES",Str.ofString "step_price",Str.ofString "swap_writes",Str.ofString "skip_lengths",Str.ofString "knot_ways",Str.ofString "empty_table",Str.ofString "table_told",Str.ofString "price_table",Str.ofString "rest_table",Str.ofString "START",Str.ofString "cheapest_ways",Str.ofString "first_cheapest",Str.ofString "least_slips",Str.ofString "cheapest_net",Str.ofString "many_to",Str.ofString "many_from",Str.ofString "cheapest_many",Str.ofString "sure_pairs",Str.ofString "_law_cell_at",Str.ofString "_law_stir",Str.ofString "_law_next",Str.ofString "_law_same",Str.ofString "_law_word",Str.ofString "_law_prices",Str.ofString "_law_eye",Str.ofString "_law_slip",Str.ofString "_law_pair",Str.ofString "_law_pairs",Str.ofString "_law_steps",Str.ofString "_law_alike",Str.ofString "_law_price",Str.ofString "_law_end",Str.ofString "_law_arms",Str.ofString "_law_knots",Str.ofString "_law_all_rows",Str.ofString "_law_in_all"],PySem.W.Hook.val (PySem.W.kHook K15.hp K15.ad K15.ad_hp) w)) (w.withFollow "special-get-raises" true):=fun w=>by kernel_rfl
theorem left:PySem.W.LeftO PySem.Challenge.pw_vellum_k15_whole_small_rows_gone_through view [Str.ofString "looks_alike",Str.ofString "LIKE",Str.ofString "PRICE_PLACES",Str.ofString "step_price",Str.ofString "swap_writes",Str.ofString "skip_lengths",Str.ofString "knot_ways",Str.ofString "empty_table",Str.ofString "table_told",Str.ofString "price_table",Str.ofString "rest_table",Str.ofString "START",Str.ofString "cheapest_ways",Str.ofString "first_cheapest",Str.ofString "least_slips",Str.ofString "cheapest_net",Str.ofString "many_to",Str.ofString "many_from",Str.ofString "cheapest_many",Str.ofString "sure_pairs",Str.ofString "_law_cell_at",Str.ofString "_law_stir",Str.ofString "_law_next",Str.ofString "_law_same",Str.ofString "_law_word",Str.ofString "_law_prices",Str.ofString "_law_eye",Str.ofString "_law_slip",Str.ofString "_law_pair",Str.ofString "_law_pairs",Str.ofString "_law_steps",Str.ofString "_law_alike",Str.ofString "_law_price",Str.ofString "_law_end",Str.ofString "_law_arms",Str.ofString "_law_knots",Str.ofString "_law_all_rows",Str.ofString "_law_in_all"] (fun s=>PySem.W.xlAt K15.view [] s && PySem.W.recOk (PySem.W.RowW.records (PySem.W.OpenRow.toRowW PySem.Challenge.rw_vellum_k15_whole_small_rows_gone_through.row)) s) (PySem.W.Hook.obs (PySem.W.kHook K15.hp K15.ad K15.ad_hp)) (PySem.W.Hook.val (PySem.W.kHook K15.hp K15.ad K15.ad_hp)) 2738:=
 PySem.W.byRow2 (P:=fun w=>(PySem.W.openEnds PySem.treeTable PySem.Challenge.pw_vellum_k15_whole_small_rows_gone_through w 2738).map (fun s=>(PySem.W.openSeen K15.view [Str.ofString "looks_alike",Str.ofString "LIKE",Str.ofString "PRICE_PLACES",Str.ofString "step_price",Str.ofString "swap_writes",Str.ofString "skip_lengths",Str.ofString "knot_ways",Str.ofString "empty_table",Str.ofString "table_told",Str.ofString "price_table",Str.ofString "rest_table",Str.ofString "START",Str.ofString "cheapest_ways",Str.ofString "first_cheapest",Str.ofString "least_slips",Str.ofString "cheapest_net",Str.ofString "many_to",Str.ofString "many_from",Str.ofString "cheapest_many",Str.ofString "sure_pairs",Str.ofString "_law_cell_at",Str.ofString "_law_stir",Str.ofString "_law_next",Str.ofString "_law_same",Str.ofString "_law_word",Str.ofString "_law_prices",Str.ofString "_law_eye",Str.ofString "_law_slip",Str.ofString "_law_pair",Str.ofString "_law_pairs",Str.ofString "_law_steps",Str.ofString "_law_alike",Str.ofString "_law_price",Str.ofString "_law_end",Str.ofString "_law_arms",Str.ofString "_law_knots",Str.ofString "_law_all_rows",Str.ofString "_law_in_all"] (importedModules (PySem.Challenge.pw_vellum_k15_whole_small_rows_gone_through).main.body) (fun s=>PySem.W.xlAt K15.view [] s && PySem.W.recOk (PySem.W.RowW.records (PySem.W.OpenRow.toRowW PySem.Challenge.rw_vellum_k15_whole_small_rows_gone_through.row)) s) true s,PySem.W.Hook.obs (PySem.W.kHook K15.hp K15.ad K15.ad_hp) s))=some (PySem.W.openGood K15.view [Str.ofString "looks_alike",Str.ofString "LIKE",Str.ofString "PRICE_PLACES",Str.ofString "step_price",Str.ofString "swap_writes",Str.ofString "skip_lengths",Str.ofString "knot_ways",Str.ofString "empty_table",Str.ofString "table_told",Str.ofString "price_table",Str.ofString "rest_table",Str.ofString "START",Str.ofString "cheapest_ways",Str.ofString "first_cheapest",Str.ofString "least_slips",Str.ofString "cheapest_net",Str.ofString "many_to",Str.ofString "many_from",Str.ofString "cheapest_many",Str.ofString "sure_pairs",Str.ofString "_law_cell_at",Str.ofString "_law_stir",Str.ofString "_law_next",Str.ofString "_law_same",Str.ofString "_law_word",Str.ofString "_law_prices",Str.ofString "_law_eye",Str.ofString "_law_slip",Str.ofString "_law_pair",Str.ofString "_law_pairs",Str.ofString "_law_steps",Str.ofString "_law_alike",Str.ofString "_law_price",Str.ofString "_law_end",Str.ofString "_law_arms",Str.ofString "_law_knots",Str.ofString "_law_all_rows",Str.ofString "_law_in_all"],PySem.W.Hook.val (PySem.W.kHook K15.hp K15.ad K15.ad_hp) w)) "special-get-raises" left_false left_true
theorem said0:PySem.W.OpenLaw.wellSaid PySem.Challenge.rw_vellum_k15_whole_small_rows_gone_through=true:=by kernel_rfl
end K15
namespace L2
open PySem PySem.Spec PyProof.Rows
abbrev Key:=Sum Int Str
def keyIs:Key->Value->Bool
 | .inl k,v=>Value.isInt k v
 | .inr x,v=>Value.isStrOf x v
def keyH (w:World):Key->Int
 | .inl k=>hashInt k
 | .inr x=>hashStr w x
theorem keyIs_shape:∀ {k:Key} {v:Value},keyIs k v=true->(∃ i t,k=Sum.inl i/\v=Value.int i t)\/(∃ x t,k=Sum.inr x/\v=Value.str x t)
 | .inl i,v,h=>by
  obtain ⟨t,e⟩:=Value.isInt_shape (k:=i) (v:=v) h
  exact .inl ⟨i,t,rfl,e⟩
 | .inr x,v,h=>by
  obtain ⟨t,e⟩:=Value.isStrOf_shape (x:=x) (v:=v) h
  exact .inr ⟨x,t,rfl,e⟩
theorem keyIs_int (i:Int) (t:Tok):keyIs (.inl i) (.int i t)=true:=by simp [keyIs,Value.isInt]
theorem keyIs_str (x:Str) (t:Tok):keyIs (.inr x) (.str x t)=true:=by simp [keyIs,Value.isStrOf]
theorem key_ll (a b:Int):decide ((Sum.inl a:Key)=Sum.inl b)=(a == b):=by
 by_cases e:a=b
 ·subst e;simp
 ·have h:¬ (Sum.inl a:Key)=Sum.inl b:=fun q=>e (Sum.inl.inj q)
  rw [decide_eq_false h]
  exact (beq_eq_false_iff_ne.mpr e).symm
theorem key_rr (a b:Str):decide ((Sum.inr a:Key)=Sum.inr b)=decide (a=b):=by
 by_cases e:a=b
 ·subst e;simp
 ·have h:¬ (Sum.inr a:Key)=Sum.inr b:=fun q=>e (Sum.inr.inj q)
  rw [decide_eq_false h,decide_eq_false e]
theorem key_lr (a:Int) (b:Str):decide ((Sum.inl a:Key)=Sum.inr b)=false:=decide_eq_false (fun q=>nomatch q)
theorem key_rl (a:Str) (b:Int):decide ((Sum.inr a:Key)=Sum.inl b)=false:=decide_eq_false (fun q=>nomatch q)
def mixKind (prog:Program) (w:World):PySem.KeyKind prog w Key where
 is:=keyIs
 hash:=keyH w
 inj:=fun v a b ha hb=>by
  rcases keyIs_shape ha with ⟨i,t,rfl,rfl⟩ | ⟨x,t,rfl,rfl⟩
  ·rcases keyIs_shape hb with ⟨j,u,rfl,e⟩ | ⟨y,u,rfl,e⟩
   ·injection e with e1 _;rw [e1]
   ·exact nomatch e
  ·rcases keyIs_shape hb with ⟨j,u,rfl,e⟩ | ⟨y,u,rfl,e⟩
   ·exact nomatch e
   ·injection e with e1 _;rw [e1]
 byValue:=fun k v h=>by
  rcases keyIs_shape h with ⟨i,t,rfl,rfl⟩ | ⟨x,t,rfl,rfl⟩ <;> rfl
 pyHash:=fun hv h=>by
  rcases keyIs_shape hv with ⟨i,t,rfl,rfl⟩ | ⟨x,t,rfl,rfl⟩
  ·exact wpAny_pyHash_int h
  ·exact wpAny_pyHash_str h
 eqBool:=fun hu hv h=>by
  rcases keyIs_shape hu with ⟨i,t,rfl,rfl⟩ | ⟨x,t,rfl,rfl⟩
  ·rcases keyIs_shape hv with ⟨j,u,rfl,rfl⟩ | ⟨y,u,rfl,rfl⟩
   ·rw [key_ll] at h;exact wpAny_eqBool_int h
   ·rw [key_lr] at h;exact SeqAt.EqAt.int_str i t y u _ _ _ _ h
  ·rcases keyIs_shape hv with ⟨j,u,rfl,rfl⟩ | ⟨y,u,rfl,rfl⟩
   ·rw [key_rl] at h;exact SeqAt.EqAt.str_int x t j u _ _ _ _ h
   ·rw [key_rr] at h;exact wpAny_eqBool_str h
 «strs»:=fun k x t v h=>by
  rcases keyIs_shape h with ⟨i,u,rfl,e⟩ | ⟨y,u,rfl,e⟩
  ·exact nomatch e
  ·injection e with e1 _
   subst e1
   cases v <;> rfl
theorem mixKind_int (prog:Program) (w:World) (i:Int) (t:Tok):(mixKind prog w).is (.inl i) (.int i t)=true:=keyIs_int i t
theorem mixKind_str (prog:Program) (w:World) (x:Str) (t:Tok):(mixKind prog w).is (.inr x) (.str x t)=true:=keyIs_str x t
end L2
namespace L2
open PySem PySem.Spec PyProof.Rows
inductive V where
 | non | bl (b:Bool) | int (i:Int) | str (x:Str) | byt (b:Array UInt8) | flt (b:UInt64) | ref (a:Addr) | ty (n:String)
 deriving DecidableEq
def RelV:V->Value->Prop
 | .non,u=>u=Value.none
 | .bl b,u=>u=Value.bool b
 | .int i,u=>∃ t,u=Value.int i t
 | .str x,u=>∃ t,u=Value.str x t
 | .byt b,u=>∃ t,u=Value.bytes b t
 | .flt b,u=>∃ t,u=Value.float b t
 | .ref a,u=>u=Value.ref a
 | .ty n,u=>u=Value.type n
abbrev Vals:List V->List Value->Prop:=Paired RelV
theorem Vals.length {xs:List V} {us:List Value} (r:Vals xs us):xs.length=us.length:=Paired.length r
theorem Vals.get:∀ {xs:List V} {us:List Value} {i:Nat} {x:V},Vals xs us->xs[i]?=some x->∃ u,us[i]?=some u/\RelV x u
 | _,_,_,_,.nil,e=>by simp at e
 | _,_,0,_,.cons r _,e=>by simp at e;subst e;exact ⟨_,rfl,r⟩
 | _,_,i+1,x,.cons _ t,e=>by
  obtain ⟨u,h1,h2⟩:=Vals.get (i:=i) (x:=x) t (by simpa using e)
  exact ⟨u,by simpa using h1,h2⟩
theorem Vals.set {x:V} {u:Value} (r:RelV x u):∀ {xs:List V} {us:List Value} (i:Nat),Vals xs us->Vals (xs.set i x) (us.set i u)
 | _,_,_,.nil=>.nil
 | _,_,0,.cons _ t=>.cons r t
 | _,_,i+1,.cons q t=>.cons q (Vals.set r i t)
theorem Vals.append:∀ {xs ys:List V} {us ws:List Value},Vals xs us->Vals ys ws->Vals (xs++ys) (us++ws)
 | _,_,_,_,.nil,s=>s
 | _,_,_,_,.cons r t,s=>.cons r (Vals.append t s)
theorem Vals.take:∀ {xs:List V} {us:List Value} (n:Nat),Vals xs us->Vals (xs.take n) (us.take n)
 | _,_,0,_=>.nil
 | _,_,_+1,.nil=>.nil
 | _,_,n+1,.cons r t=>.cons r (Vals.take n t)
theorem Vals.drop:∀ {xs:List V} {us:List Value} (n:Nat),Vals xs us->Vals (xs.drop n) (us.drop n)
 | _,_,0,r=>r
 | _,_,_+1,.nil=>.nil
 | _,_,n+1,.cons _ t=>Vals.drop n t
def RelO:Option V->Option Value->Prop
 | some v,some u=>RelV v u
 | none,none=>True
 | _,_=>False
def KV {κ:Type}:List (κ × V)->List (κ × Value)->Prop:=Paired fun (p:κ × V) (q:κ × Value)=>p.1=q.1/\RelV p.2 q.2
def kV:Key->V
 | .inl i=>.int i
 | .inr x=>.str x
inductive HO where
 /-- a list -/
 | lst (xs:List V)
 /-- a tuple (never changes) -/
 | tup (xs:List V)
 /-- a dict whose keys are ints and texts;one whose keys are tuples of ints and texts (the empty one is both) -/
 | dK (kvs:List (Key × V)) | dT (kvs:List (List Key × V))
 /-- a set of ints: its members,its size -/
 | set (S:Int->Bool) (n:Nat)
 /-- an instance of the class at C,its dict at dx,its attributes -/
 | ins (C dx:Addr) (fs:List (Str × V))
 /-- the dict of the instance at x -/
 | own (x:Addr)
 /-- the dict of an exception -/
 | xd (fs:List (Str × V))
 /-- a bound method,f of x -/
 | met (f x:Addr)
 /-- a range object lo,lo+1, .. below hi -/
 | rng (lo hi:Int)
 /-- a thing that is known to the object (the script;a dict while a loop walks it): read,never written while it is so -/
 | frz (o:Obj) (u:HO)
 /-- a code object's table -/
 | tbl (ps:Array Value)
 /-- any other thing,by what is true of its one object (a def of one's own: SetO a S n:=HO.ext fun h=>..) -/
 | ext (φ:Heap->Prop)
abbrev Hp:=Addr->Option HO
def upd (H:Hp) (a:Addr) (o:HO):Hp:=fun b=>if b=a then some o else H b
theorem upd_same {H:Hp} {a:Addr} {o:HO}:upd H a o a=some o:=by unfold upd;rw [if_pos rfl]
theorem upd_ne {H:Hp} {a b:Addr} {o:HO} (h:b ≠ a):upd H a o b=H b:=by unfold upd;rw [if_neg h]
theorem ne_of {H:Hp} {a b:Addr} {o u:HO} (h:H a=some o) (h':H b=some u) (d:o ≠ u):a ≠ b:=by
 intro e;subst e;rw [h] at h';exact d (Option.some.inj h')
theorem ne_of_none {H:Hp} {a b:Addr} {o:HO} (h:H a=some o) (h':H b=none):a ≠ b:=by
 intro e;subst e;rw [h] at h';cases h'
section
variable (P:Program) (w:World)
def ObjOk (H:Hp) (h:Heap) (a:Addr):HO->Prop
 | .lst xs=>xs.length<=sizeLine/\∃ (its:List Value) (n:Nat),Vals xs its/\h.get? a=some { cls:=.type "list",data:=.seq its.toArray n }
 | .tup xs=>xs.length<=sizeLine/\∃ its:List Value,Vals xs its/\IsTup h a its.toArray
 | .dK kvs=>kvs.length<=sizeLine/\(a == sysModules)=false/\∃ vs,KV kvs vs/\h.DictOf (mixKind P w) a vs
 | .dT _=>False
 | .set S n=>h.SetOf (intKind P w) a S n
 | .ins C dx fs=>H dx=some (.own a)/\fs.length<=1000/\dx ≠ a/\h.get? a=some (PySem.W.instObj C dx) ∧
   ∃ mA,h.Ns1 dx mA/\(∀ f,RelO (fs.lookup f) (mA f))/\PySem.Within mA (fs.map (·.1))
 | .own _=>∃ o,h.get? a=some o
 | .xd fs=>∃ mA,h.Ns1 a mA/\∀ f,RelO (fs.lookup f) (mA f)
 | .rng lo hi=>∃ t u v,h.get? a=some { cls:=.type "range",data:=.fields #[.int lo t,.int hi u,.int 1 v] }
 | .frz o u=>h.get? a=some o/\ObjOk H h a u
 | .tbl ps=>h.get? a=some { cls:=.none,data:=.fields ps }
 | .met f x=>h.get? a=some (PySem.W.methodObj (.ref f) (.ref x))
 | .ext φ=>φ h/\(∃ o,h.get? a=some o)/\∀ h1 h2:Heap,φ h1->(∀ o,h1.get? a=some o->h2.get? a=some o)->φ h2
def HOk (H:Hp) (h:Heap):Prop:=∀ a o,H a=some o->ObjOk P w H h a o
end
section
variable {P:Program} {w:World} {H H':Hp} {h h':Heap} {a:Addr} {o:HO}
theorem ObjOk.lt (x:ObjOk P w H h a o):a < h.objs.size:=by
 cases o with
 | lst xs=>obtain ⟨_,_,_,_,e⟩:=x;exact Heap.lt_size e
 | tup xs=>obtain ⟨_,_,_,p⟩:=x;exact p.lt
 | dK kvs=>obtain ⟨_,_,_,_,o,_,_,e,_⟩:=x;exact Heap.lt_size e
 | dT kvs=>exact False.elim x
 | set S n=>obtain ⟨o,_,_,_,e,_⟩:=x;exact Heap.lt_size e
 | ins C dx fs=>obtain ⟨_,_,_,e,_⟩:=x;exact Heap.lt_size e
 | own y=>obtain ⟨_,e⟩:=x;exact Heap.lt_size e
 | xd fs=>obtain ⟨_,⟨_,_,_,e,_⟩,_⟩:=x;exact Heap.lt_size e
 | rng lo hi=>obtain ⟨_,_,_,e⟩:=x;exact Heap.lt_size e
 | frz ob u=>obtain ⟨e,_⟩:=x;exact Heap.lt_size e
 | tbl ps=>exact Heap.lt_size (show h.get? a=some _ from x)
 | met f y=>exact Heap.lt_size (show h.get? a=some _ from x)
 | ext φ=>obtain ⟨_,⟨_,e⟩,_⟩:=x;exact Heap.lt_size e
theorem ObjOk.stay (x:ObjOk P w H h a o) (k:∀ b u,(b=a\/H b=some (.own a))->h.get? b=some u->h'.get? b=some u)
  (ho:∀ b,H b=some (.own a)->H' b=some (.own a)) (ht:∀ b xs,H b=some (.tup xs)->H' b=some (.tup xs)):ObjOk P w H' h' a o:=by
 induction o with
 | lst xs=>obtain ⟨z,its,n,r,e⟩:=x;exact ⟨z,its,n,r,k _ _ (.inl rfl) e⟩
 | tup xs=>obtain ⟨z,its,r,ob,e,c⟩:=x;exact ⟨z,its,r,ob,k _ _ (.inl rfl) e,c⟩
 | dK kvs=>obtain ⟨z,y,vs,r,ob,es,ep,e,c⟩:=x;exact ⟨z,y,vs,r,ob,es,ep,k _ _ (.inl rfl) e,c⟩
 | dT kvs=>exact False.elim x
 | set S n=>obtain ⟨ob,es,ep,t,e,c⟩:=x;exact ⟨ob,es,ep,t,k _ _ (.inl rfl) e,c⟩
 | ins C dx fs=>
  obtain ⟨d,z,ne,e,mA,⟨od,es,ep,e2,c⟩,r⟩:=x
  exact ⟨ho _ d,z,ne,k _ _ (.inl rfl) e,mA,⟨od,es,ep,k _ _ (.inr d) e2,c⟩,r⟩
 | own y=>obtain ⟨ob,e⟩:=x;exact ⟨ob,k _ _ (.inl rfl) e⟩
 | xd fs=>obtain ⟨mA,⟨od,es,ep,e,c⟩,r⟩:=x;exact ⟨mA,⟨od,es,ep,k _ _ (.inl rfl) e,c⟩,r⟩
 | rng lo hi=>obtain ⟨t,u,v,e⟩:=x;exact ⟨t,u,v,k _ _ (.inl rfl) e⟩
 | frz ob u ih=>obtain ⟨e,q⟩:=x;exact ⟨k _ _ (.inl rfl) e,ih q⟩
 | tbl ps=>
  have e:h.get? a=some { cls:=.none,data:=.fields ps }:=x
  show h'.get? a=some { cls:=.none,data:=.fields ps }
  exact k a _ (.inl rfl) e
 | met f y=>
  have e:h.get? a=some (PySem.W.methodObj (.ref f) (.ref y)):=x
  show h'.get? a=some (PySem.W.methodObj (.ref f) (.ref y))
  exact k a _ (.inl rfl) e
 | ext φ=>obtain ⟨p,⟨o,e⟩,st⟩:=x;exact ⟨st _ _ p fun o q=>k _ _ (.inl rfl) q,⟨o,k _ _ (.inl rfl) e⟩,st⟩
theorem HOk.lt (x:HOk P w H h) (e:H a=some o):a < h.objs.size:=(x a o e).lt
theorem HOk.fresh (x:HOk P w H h) (e:h.objs.size<=a):H a=none:=by
 cases q:H a with
 | none=>rfl
 | some u=>exact absurd (Nat.lt_of_lt_of_le (x.lt q) e) (Nat.lt_irrefl _)
theorem HOk.kept (x:HOk P w H h) (k:∀ b u,h.get? b=some u->h'.get? b=some u):HOk P w H h':=fun a o e=>
 (x a o e).stay (fun b u _ q=>k b u q) (fun _ q=>q) fun _ _ q=>q
theorem HOk.laid (x:HOk P w H h) (k:∀ b u,h.get? b=some u->h'.get? b=some u) (hp:h.objs.size<=a) (new:ObjOk P w (upd H a o) h' a o):HOk P w (upd H a o) h':=fun b u e=>by
 have hn:=x.fresh hp
 by_cases hb:b=a
 ·subst hb;rw [upd_same] at e;cases e;exact new
 ·rw [upd_ne hb] at e
  exact (x b u e).stay (fun c v _ q=>k c v q) (fun c q=>by rw [upd_ne (ne_of_none q hn)];exact q) fun c xs q=>by rw [upd_ne (ne_of_none q hn)];exact q
end
def Rd (H:Hp) (a:Addr) (u:HO):Prop:=H a=some u\/∃ o,H a=some (.frz o u)
theorem Rd.ok {P:Program} {w:World} {H:Hp} {h:Heap} {a:Addr} {u:HO} (r:Rd H a u) (x:HOk P w H h):ObjOk P w H h a u:=by
 rcases r with r | ⟨o,r⟩
 ·exact x a u r
 ·obtain ⟨_,q⟩:=x a _ r
  exact q
def Mut:Option HO->Prop
 | some (.lst _)=>True
 | some (.dK _)=>True
 | some (.dT _)=>True
 | some (.set _ _)=>True
 | some (.ins _ _ _)=>True
 | some (.ext _)=>True
 | _=>False
section
variable {P:Program} {w:World} {H:Hp} {h h':Heap} {x e:Addr} {o':HO}
theorem HOk.write (ok:HOk P w H h) (mu:Mut (H x)) (he:e=x\/H e=some (.own x)) (k:∀ b u,b ≠ e->h.get? b=some u->h'.get? b=some u) (heo:∃ u,h'.get? e=some u)
  (new:ObjOk P w (upd H x o') h' x o'):HOk P w (upd H x o') h':=fun b u q=>by
 have nown:∀ c y,H c=some (.own y)->c ≠ x:=fun c y r z=>by subst z;rw [r] at mu;exact mu
 have ntup:∀ c xs,H c=some (.tup xs)->c ≠ x:=fun c xs r z=>by subst z;rw [r] at mu;exact mu
 by_cases hb:b=x
 ·subst hb;rw [upd_same] at q;cases q;exact new
 ·rw [upd_ne hb] at q
  by_cases hbe:b=e
  ·have q':H b=some (.own x):=by
    rcases he with z | z
    ·exact absurd (hbe.trans z) hb
    ·rw [hbe];exact z
   rw [q] at q';cases q'
   obtain ⟨v,hv⟩:=heo
   exact ⟨v,by rw [hbe];exact hv⟩
  ·refine (ok b u q).stay (fun c v hc r=>k c v ?_ r) (fun c r=>by rw [upd_ne (nown c b r)];exact r) fun c xs r=>by rw [upd_ne (ntup c xs r)];exact r
   rcases hc with rfl | hc
   ·exact hbe
   ·rintro rfl
    rcases he with z | z
    ·exact nown c b hc z
    ·rw [hc] at z;cases z;exact hb rfl
end
structure Un (fs ex:List Addr) (H H':Hp) (h h':Heap):Prop where
 keep:∀ b o,h.get? b=some o->H b=none->b ∉ fs->b ∉ ex->h'.get? b=some o
 slot:∀ b o,h.get? b=some o->H b=none->b ∈ fs->b ∉ ex->∃ sl,h'.get? b=some { o with slots:=sl }
 free:∀ b o,h.get? b=some o->H b=none->b ∉ ex->H' b=none
 there:∀ b o,h.get? b=some o->b ∉ ex->∃ o',h'.get? b=some o'
 tups:∀ b xs,H b=some (.tup xs)->H' b=some (.tup xs)
 frzs:∀ b o u,H b=some (.frz o u)->H' b=some (.frz o u)
 tbls:∀ b ps,H b=some (.tbl ps)->∃ more,H' b=some (.tbl (ps++more))
section
variable {fs fs' ex ex':List Addr} {H H1 H2:Hp} {h h1 h2 h':Heap} {a x e:Addr} {o:HO}
theorem Un.any (u:Un fs ex H H1 h h1) {b:Addr} {ob:Obj} (q:h.get? b=some ob) (n:H b=none) (hx:b ∉ ex):∃ sl,h1.get? b=some { ob with slots:=sl }:=by
 by_cases hb:b ∈ fs
 ·exact u.slot b ob q n hb hx
 ·exact ⟨ob.slots,u.keep b ob q n hb hx⟩
theorem Un.kept (k:∀ b u,h.get? b=some u->h'.get? b=some u):Un fs ex H H h h':=
 ⟨fun b ob q _ _ _=>k b ob q,fun b ob q _ _ _=>⟨ob.slots,k b ob q⟩,fun _ _ _ n _=>n,fun b ob q _=>⟨ob,k b ob q⟩,fun _ _ q=>q,fun _ _ _ q=>q,fun _ ps q=>⟨#[],by rw [q];simp⟩⟩
theorem Un.refl:Un fs ex H H h h:=Un.kept fun _ _ q=>q
theorem Un.laid (k:∀ b u,h.get? b=some u->h'.get? b=some u) (hp:h.objs.size<=a) (hn:H a=none):Un fs ex H (upd H a o) h h' where
 keep:=fun b u q _ _ _=>k b u q
 slot:=fun b u q _ _ _=>⟨u.slots,k b u q⟩
 free:=fun b u q n _=>by rw [upd_ne (Nat.ne_of_lt (Nat.lt_of_lt_of_le (Heap.lt_size q) hp))];exact n
 there:=fun b u q _=>⟨u,k b u q⟩
 tups:=fun b xs q=>by rw [upd_ne (ne_of_none q hn)];exact q
 frzs:=fun b u xs q=>by rw [upd_ne (ne_of_none q hn)];exact q
 tbls:=fun b ps q=>⟨#[],by rw [upd_ne (ne_of_none q hn),q];simp⟩
theorem Un.write (mu:Mut (H x)) (he:e=x\/H e=some (.own x)) (k:∀ b u,b ≠ e->h.get? b=some u->h'.get? b=some u) (heo:∃ u,h'.get? e=some u):Un fs ex H (upd H x o) h h':=by
 have hx:∀ b,H b=none->b ≠ x:=fun b n z=>by subst z;rw [n] at mu;exact mu
 have hb:∀ b,H b=none->b ≠ e:=fun b n z=>by
  subst z
  rcases he with r | r
  ·exact hx b n r
  ·rw [n] at r;cases r
 have hm:∀ b u,H b=some u->¬ Mut (some u)->b ≠ x:=fun b u q nm z=>by subst z;rw [q] at mu;exact nm mu
 refine ⟨fun b u q n _ _=>k b u (hb b n) q,fun b u q n _ _=>⟨u.slots,k b u (hb b n) q⟩,fun b u q n _=>by rw [upd_ne (hx b n)];exact n,fun b u q _=>?_,
  fun b xs q=>by rw [upd_ne (hm b _ q fun z=>z)];exact q,fun b u xs q=>by rw [upd_ne (hm b _ q fun z=>z)];exact q,fun b ps q=>⟨#[],by rw [upd_ne (hm b _ q fun z=>z),q];simp⟩⟩
 by_cases hbe:b=e
 ·subst hbe;exact heo
 ·exact ⟨u,k b u hbe q⟩
end
def trk (h:Heap) (H:Hp):List Addr:=(List.range h.objs.size).filter fun a=>(H a).isSome
def hidT (h:Heap) (H:Hp):Heap:=PySem.W.hideAll h (trk h H)
theorem hidT_size (h:Heap) (H:Hp):(hidT h H).objs.size=h.objs.size:=PySem.W.hideAll_size _ _
theorem hidT_get {h:Heap} {H:Hp} {b:Addr} {o:Obj} (e:h.get? b=some o) (n:H b=none):(hidT h H).get? b=some o:=
 PySem.W.hideAll_get _ e fun hm=>by
  have q:(H b).isSome=true:=(List.mem_filter.mp hm).2
  rw [n] at q;simp at q
theorem of_hidT {h:Heap} {H:Hp} {b:Addr} {o:Obj} (e:(hidT h H).get? b=some o):h.get? b=some o/\H b=none:=by
 have e':h.get? b=some o:=PySem.W.of_hideAll (trk h H) e
 refine ⟨e',?_⟩
 cases q:H b with
 | none=>rfl
 | some x=>
  have hm:b ∈ trk h H:=List.mem_filter.mpr ⟨List.mem_range.mpr (Heap.lt_size e'),by simp [q]⟩
  have z:(hidT h H).get? b=none:=PySem.W.hideAll_none (trk h H) hm
  rw [z] at e;cases e
end L2
namespace L2
open PySem PySem.Spec PyProof.Rows
structure Mod (K:PySem.W.Frag) (mg:Str->Option Value) (base:Heap):Prop where
 kin:K.In base
 glob:base.Ns mainGlobals mg
 blt:∃ mb,base.Ns builtinsNs mb/\∀ x:Str,x ≠ "__name__"->mb x=bootBuiltins x
 nolimit:base.NoLimit
structure Cx where
 prog:Program
 w:World
 K:PySem.W.Frag
 mg:Str->Option Value
 base:Heap
 A:Around
 N:List Str
 s₀:Shared
 H₀:Hp
 env:Env
 outer:List Env
 stack:List Env
 ex:List Addr
 fn:Str->Bool
 calm:Bool
 pn:List (Addr × Obj)
 xe:Value->Shared->Prop
def frs (l:List Env):List Addr:=l.filterMap (·.frame)
abbrev Cx.fs (X:Cx):List Addr:=frs X.outer
def Vis (sc:Scope) (x:Str):Prop:=sc.names.lookup x=some .local\/sc.names.lookup x=some .cell\/sc.names.lookup x=some .free
def Loc (sc:Scope) (x:Str):Prop:=sc.names.lookup x=some .local\/sc.names.lookup x=some .cell
def Look (env:Env) (h:Heap) (m:Str->Option Value) (x:Str) (u:Value):Prop:=
 (env.kindOf x=some .local/\m x=some u)\/((env.kindOf x=some .cell\/env.kindOf x=some .free)/\∃ c,env.cells.lookup x=some c/\h.IsCell c (some u))
structure Cx.Ok (X:Cx):Prop where
 mod:Mod X.K X.mg X.base
 kind:X.env.scope.kind=.function
 glob:X.env.globals=mainGlobals
 blt:X.env.builtins=builtinsNs
 above:X.s₀.heap.objs.size<=X.env.locals
 inj:∀ x y c,X.env.cells.lookup x=some c->X.env.cells.lookup y=some c->x=y
 has:∀ x,(X.env.kindOf x=some .cell\/X.env.kindOf x=some .free)->∃ c,X.env.cells.lookup x=some c
 cab:∀ x c,X.fn x=true->X.env.cells.lookup x=some c->X.s₀.heap.objs.size<=c
 hd:X.calm=true->X.A.handled=none
 frames:X.A.frames=some X.stack
 stk:X.stack=X.outer\/(X.stack=X.env :: X.outer/\X.env.frame=some X.env.locals)
 exf:∀ b ∈ X.ex,b ≠ X.env.locals/\∀ x c,X.env.cells.lookup x=some c->c ≠ b
 bs:∀ b o,X.base.get? b=some o->X.s₀.heap.get? b=some o/\X.H₀ b=none
 bsz:X.base.objs.size<=X.s₀.heap.objs.size
 noex:∀ b o,X.base.get? b=some o->b ∉ X.ex
 exfs:∀ b ∈ X.ex,b ∉ X.fs
 funs:X.s₀.heap.FunFrames X.base X.outer
 frf:∀ b ∈ X.fs,X.H₀ b=none
structure Inv (X:Cx) (pins:List (Addr × Obj)) (σ:List (Option V)) (H:Hp) (s:Shared):Prop where
 ok:X.Ok
 os:s.os=X.s₀.os
 bare:AllBare s.gens
 base:Un X.fs X.ex X.H₀ H X.s₀.heap s.heap
 loc:∃ m,s.heap.Ns X.env.locals m/\∀ (i:Nat) (x:Str) (v:V),X.N[i]?=some x->σ[i]?=some (some v)->Vis X.env.scope x->∃ u,RelV v u/\Look X.env s.heap m x u
 cell:∀ x c,X.env.cells.lookup x=some c->∃ v,s.heap.IsCell c v
 free:H X.env.locals=none
 freeC:∀ x c,X.env.cells.lookup x=some c->H c=none
 pin:∀ p ∈ X.pn++pins,s.heap.get? p.1=some p.2/\H p.1=none/\p.1 ≠ X.env.locals/\p.1 ∉ X.fs/\∀ v,p.2.data ≠ .cell v
 hok:HOk X.prog X.w H s.heap
 len:σ.length=X.N.length
section
variable {X:Cx} {pins:List (Addr × Obj)} {σ:List (Option V)} {H H':Hp} {s:Shared} {h':Heap}
theorem Cx.Ok.nofr (ok:X.Ok) {b:Addr} {o:Obj} (e:X.base.get? b=some o):b ∉ X.fs:=fun hb=>by
 have:=(ok.funs.mem hb).1
 rw [e] at this;cases this
theorem Inv.bs (I:Inv X pins σ H s):∀ b o,X.base.get? b=some o->s.heap.get? b=some o/\H b=none:=fun b o e=>
 ⟨I.base.keep b o (I.ok.bs b o e).1 (I.ok.bs b o e).2 (I.ok.nofr e) (I.ok.noex b o e),I.base.free b o (I.ok.bs b o e).1 (I.ok.bs b o e).2 (I.ok.noex b o e)⟩
theorem Inv.bk (I:Inv X pins σ H s):∀ b o,X.base.get? b=some o->s.heap.get? b=some o:=fun b o e=>(I.bs b o e).1
theorem Inv.mod (I:Inv X pins σ H s):Mod X.K X.mg X.base:=I.ok.mod
theorem Inv.kIn (I:Inv X pins σ H s):X.K.In s.heap:=I.ok.mod.kin.keeps I.bk
theorem Inv.lt (I:Inv X pins σ H s):X.env.locals < s.heap.objs.size:=let ⟨_,hn,_⟩:=I.loc;hn.lt
theorem Inv.sz (I:Inv X pins σ H s):X.s₀.heap.objs.size<=s.heap.objs.size:=Nat.le_trans I.ok.above (Nat.le_of_lt I.lt)
theorem Inv.nofs (I:Inv X pins σ H s) {a:Addr} (h:s.heap.objs.size<=a):a ∉ X.fs:=fun hb=>by
 obtain ⟨_,o,ho,_⟩:=I.ok.funs.mem hb
 exact absurd (Nat.lt_of_lt_of_le (Heap.lt_size ho) (Nat.le_trans I.sz h)) (Nat.lt_irrefl _)
theorem Inv.cne (I:Inv X pins σ H s):∀ x c,X.env.cells.lookup x=some c->c ≠ X.env.locals:=fun x c e z=>by
 obtain ⟨v,o,ho,hd⟩:=I.cell x c e
 obtain ⟨m,⟨o',es,ep,ho',hd',_⟩,_⟩:=I.loc
 rw [z,ho'] at ho;cases ho;rw [hd'] at hd;cases hd
theorem Inv.funs (I:Inv X pins σ H s):s.heap.FunFrames X.base X.outer:=by
 have all:∀ (l:List Env),(∀ b ∈ frs l,b ∈ X.fs)->X.s₀.heap.FunFrames X.base l->s.heap.FunFrames X.base l:=by
  intro l
  induction l with
  | nil=>intro _ _;trivial
  | cons env r ih=>
   intro hs hl
   obtain ⟨hk,⟨L,o,hf,hn,ho,hd⟩,hr⟩:=hl
   have hL:L ∈ X.fs:=hs L (by unfold frs;rw [List.filterMap_cons,hf];exact List.mem_cons_self)
   obtain ⟨sl,e⟩:=I.base.slot L o ho (I.ok.frf L hL) hL fun z=>I.ok.exfs L z hL
   exact ⟨hk,⟨L,_,hf,hn,e,hd⟩,ih (fun b hb=>hs b (by unfold frs;rw [List.filterMap_cons,hf];exact List.mem_cons_of_mem _ hb)) hr⟩
 exact all X.outer (fun _ hb=>hb) I.ok.funs
theorem Inv.stack (I:Inv X pins σ H s):s.heap.FunFrames X.base X.stack:=by
 rcases I.ok.stk with e | ⟨e,hf⟩
 ·rw [e];exact I.funs
 ·rw [e]
  obtain ⟨m,hn,_⟩:=I.loc
  refine .cons (by rw [I.ok.kind];decide) hf hn ?_ I.funs
  exact Heap.get?_none_of_le (Nat.le_trans I.ok.bsz I.ok.above)
theorem Inv.stkSub (I:Inv X pins σ H s):∀ b ∈ frs X.stack,b ∈ X.env.locals :: X.fs:=fun b hb=>by
 rcases I.ok.stk with e | ⟨e,hf⟩
 ·rw [e] at hb;exact List.mem_cons_of_mem _ hb
 ·rw [e] at hb
  unfold frs at hb
  rw [List.filterMap_cons,hf] at hb
  exact hb
theorem Inv.stkFree (I:Inv X pins σ H s):∀ b ∈ frs X.stack,H b=none:=fun b hb=>by
 rcases List.mem_cons.mp (I.stkSub b hb) with e | hb
 ·rw [e];exact I.free
 ·obtain ⟨_,o,ho,_⟩:=I.ok.funs.mem hb
  exact I.base.free b o ho (I.ok.frf b hb) fun z=>I.ok.exfs b z hb
theorem Inv.step {g':Array GenState} {t':Nat} {d':Drawn} {ch:List Addr} (I:Inv X pins σ H s)
  (hch:∀ b ∈ ch,(b ∈ X.ex\/X.s₀.heap.objs.size<=b)/\b ≠ X.env.locals/\(∀ x c,X.env.cells.lookup x=some c->c ≠ b)/\∀ p ∈ X.pn++pins,p.1 ≠ b)
  (keep:∀ b o,b ≠ X.env.locals->b ∉ X.fs->b ∉ ch->s.heap.get? b=some o->H b=none->h'.get? b=some o)
  (slot:∀ b o,b ≠ X.env.locals->b ∈ X.fs->b ∉ ch->s.heap.get? b=some o->H b=none->∃ sl,h'.get? b=some { o with slots:=sl }) (free:∀ b o,b ∉ ch->s.heap.get? b=some o->H b=none->H' b=none)
  (there:∀ b o,b ∉ ch->s.heap.get? b=some o->∃ o',h'.get? b=some o')
  (tups:∀ b xs,H b=some (.tup xs)->H' b=some (.tup xs)) (frzs:∀ b o u,H b=some (.frz o u)->H' b=some (.frz o u)) (tbls:∀ b ps,H b=some (.tbl ps)->∃ more,H' b=some (.tbl (ps++more)))
  (ns:∀ m,s.heap.Ns X.env.locals m->h'.Ns X.env.locals m) (hok:HOk X.prog X.w H' h') (hg:AllBare g') :
  Inv X pins σ H' { s with heap:=h',gens:=g',drawn:=d',toks:=t' }:=by
 have neL:∀ b o,X.s₀.heap.get? b=some o->b ≠ X.env.locals:=fun b o e=>Nat.ne_of_lt (Nat.lt_of_lt_of_le (Heap.lt_size e) I.ok.above)
 have neC:∀ b o,X.s₀.heap.get? b=some o->b ∉ X.ex->b ∉ ch:=fun b o e hx hb=>by
  rcases (hch b hb).1 with z | z
  ·exact hx z
  ·exact absurd (Nat.lt_of_lt_of_le (Heap.lt_size e) z) (Nat.lt_irrefl _)
 have cellK:∀ x c,X.env.cells.lookup x=some c->∀ v,s.heap.IsCell c v->h'.IsCell c v:=fun x c e v ⟨o,ho,hd⟩=>by
  have nch:c ∉ ch:=fun z=>(hch c z).2.2.1 x c e rfl
  by_cases hc:c ∈ X.fs
  ·obtain ⟨sl,q⟩:=slot c o (I.cne x c e) hc nch ho (I.freeC x c e)
   exact ⟨_,q,hd⟩
  ·exact ⟨o,keep c o (I.cne x c e) hc nch ho (I.freeC x c e),hd⟩
 refine ⟨I.ok,I.os,hg,⟨fun b o e n hb hx=>?_,fun b o e n hb hx=>?_,fun b o e n hx=>?_,fun b o e hx=>?_,fun b xs e=>tups b xs (I.base.tups b xs e),fun b o xs e=>frzs b o xs (I.base.frzs b o xs e),fun b ps e=>?_⟩,?_,fun x c e=>?_,?_,fun x c e=>?_,fun p hp=>?_,hok,I.len⟩
 ·exact keep b o (neL b o e) hb (neC b o e hx) (I.base.keep b o e n hb hx) (I.base.free b o e n hx)
 ·obtain ⟨sl,e1⟩:=I.base.slot b o e n hb hx
  obtain ⟨sl',e2⟩:=slot b _ (neL b o e) hb (neC b o e hx) e1 (I.base.free b o e n hx)
  exact ⟨sl',e2⟩
 ·obtain ⟨o',e1⟩:=I.base.there b o e hx
  exact free b o' (neC b o e hx) e1 (I.base.free b o e n hx)
 ·obtain ⟨o',e1⟩:=I.base.there b o e hx
  exact there b o' (neC b o e hx) e1
 ·obtain ⟨m1,e1⟩:=I.base.tbls b ps e
  obtain ⟨m2,e2⟩:=tbls b _ e1
  exact ⟨m1++m2,by rw [e2,Array.append_assoc]⟩
 ·obtain ⟨m,hn,hl⟩:=I.loc
  refine ⟨m,ns m hn,fun i x v e1 e2 e3=>?_⟩
  obtain ⟨u,r,l⟩:=hl i x v e1 e2 e3
  refine ⟨u,r,?_⟩
  rcases l with l | ⟨k,c,e,z⟩
  ·exact .inl l
  ·exact .inr ⟨k,c,e,cellK x c e _ z⟩
 ·obtain ⟨v,z⟩:=I.cell x c e
  exact ⟨v,cellK x c e v z⟩
 ·obtain ⟨m,⟨o,_,_,ho,_⟩,_⟩:=I.loc
  exact free _ o (fun z=>(hch _ z).2.1 rfl) ho I.free
 ·obtain ⟨v,o,ho,hd⟩:=I.cell x c e
  exact free c o (fun z=>(hch c z).2.2.1 x c e rfl) ho (I.freeC x c e)
 ·obtain ⟨e,n,ne,nf,d⟩:=I.pin p hp
  have nch:p.1 ∉ ch:=fun z=>(hch p.1 z).2.2.2 p hp rfl
  exact ⟨keep p.1 p.2 ne nf nch e n,free p.1 p.2 nch e n,ne,nf,d⟩
theorem Inv.un {t':Nat} (I:Inv X pins σ H s) (u:Un X.fs [] H H' s.heap h') (hok:HOk X.prog X.w H' h'):Inv X pins σ H' { s with heap:=h',toks:=t' }:=by
 obtain ⟨m,⟨o,es,ep,ho,r⟩,_⟩:=id I.loc
 obtain ⟨sl,hL⟩:=u.any ho I.free (by simp)
 exact I.step (g':=s.gens) (d':=s.drawn) (ch:=[]) (fun _ z=>nomatch z) (fun b o _ hb _ e n=>u.keep b o e n hb (by simp)) (fun b o _ hb _ e n=>u.slot b o e n hb (by simp)) (fun b o _ e n=>u.free b o e n (by simp)) (fun b o _ e=>u.there b o e (by simp)) u.tups u.frzs u.tbls (fun m' hm=>by
  obtain ⟨o',es',ep',ho',r'⟩:=hm
  rw [ho] at ho';cases ho'
  exact ⟨_,es',ep',hL,r'⟩) hok I.bare
theorem Inv.call {g':Array GenState} {t':Nat} {d':Drawn} {ch:List Addr} (I:Inv X pins σ H s) (u:Un (frs X.stack) ch H H' s.heap h') (hok:HOk X.prog X.w H' h') (hg:AllBare g')
  (hch:∀ b ∈ ch,(b ∈ X.ex\/X.s₀.heap.objs.size<=b)/\b ≠ X.env.locals/\(∀ x c,X.env.cells.lookup x=some c->c ≠ b)/\∀ p ∈ X.pn++pins,p.1 ≠ b) :
  Inv X pins σ H' { s with heap:=h',gens:=g',drawn:=d',toks:=t' }:=by
 obtain ⟨m,⟨o,es,ep,ho,r⟩,_⟩:=id I.loc
 obtain ⟨sl,hL⟩:=u.any ho I.free fun z=>(hch _ z).2.1 rfl
 exact I.step (ch:=ch) hch (fun b o hL hb hc e n=>u.keep b o e n (fun z=>(List.mem_cons.mp (I.stkSub b z)).elim hL hb) hc) (fun b o _ _ hc e n=>u.any e n hc) (fun b o hc e n=>u.free b o e n hc) (fun b o hc e=>u.there b o e hc) u.tups u.frzs u.tbls (fun m' hm=>by
  obtain ⟨o',es',ep',ho',r'⟩:=hm
  rw [ho] at ho';cases ho'
  exact ⟨_,es',ep',hL,r'⟩) hok hg
theorem Inv.turned {t':Nat} {it:Addr} (I:Inv X pins σ H s) (k:∀ b o,b ≠ it->s.heap.get? b=some o->h'.get? b=some o) (hn:H it=none) (hL:it ≠ X.env.locals)
  (h1:it ∈ X.ex\/X.s₀.heap.objs.size<=it) (h2:∀ x c,X.env.cells.lookup x=some c->c ≠ it) (h3:∀ p ∈ X.pn++pins,p.1 ≠ it):Inv X pins σ H { s with heap:=h',toks:=t' }:=by
 have nit:∀ b u,H b=some u->b ≠ it:=fun b u e z=>by rw [z,hn] at e;cases e
 refine I.step (g':=s.gens) (d':=s.drawn) (ch:=[it]) (fun b hb=>?_) (fun b o _ _ hc e _=>k b o (fun z=>hc (by simp [z])) e) (fun b o _ _ hc e _=>⟨o.slots,k b o (fun z=>hc (by simp [z])) e⟩) (fun _ _ _ _ n=>n)
  (fun b o hc e=>⟨o,k b o (fun z=>hc (by simp [z])) e⟩) (fun _ _ e=>e) (fun _ _ _ e=>e) (fun b ps e=>⟨#[],by rw [e];simp⟩) (fun m hm=>?_) (fun b u e=>?_) I.bare
 ·have e:b=it:=by simpa using hb
  subst e
  exact ⟨h1,hL,h2,h3⟩
 ·obtain ⟨o,es,ep,ho,r⟩:=hm
  exact ⟨o,es,ep,k _ o (Ne.symm hL) ho,r⟩
 ·refine (I.hok b u e).stay (fun c v hc q=>k c v ?_ q) (fun _ q=>q) fun _ _ q=>q
  rcases hc with z | z
  ·rw [z];exact nit b u e
  ·exact nit c _ z
theorem Inv.tok (I:Inv X pins σ H s) (t:Nat):Inv X pins σ H { s with toks:=t }:=I.un (h':=s.heap) (t':=t) Un.refl I.hok
theorem Inv.kept {t':Nat} (I:Inv X pins σ H s) (k:∀ b u,s.heap.get? b=some u->h'.get? b=some u):Inv X pins σ H { s with heap:=h',toks:=t' }:=I.un (Un.kept k) (I.hok.kept k)
theorem Inv.laid {a:Addr} {o:HO} {t':Nat} (I:Inv X pins σ H s) (k:∀ b u,s.heap.get? b=some u->h'.get? b=some u) (hp:s.heap.objs.size<=a) (new:ObjOk X.prog X.w (upd H a o) h' a o) :
  Inv X pins σ (upd H a o) { s with heap:=h',toks:=t' }:=I.un (Un.laid k hp (I.hok.fresh hp)) (I.hok.laid k hp new)
theorem Inv.write {x e:Addr} {o:HO} {t':Nat} (I:Inv X pins σ H s) (mu:Mut (H x)) (he:e=x\/H e=some (.own x)) (k:∀ b u,b ≠ e->s.heap.get? b=some u->h'.get? b=some u) (heo:∃ u,h'.get? e=some u)
  (new:ObjOk X.prog X.w (upd H x o) h' x o):Inv X pins σ (upd H x o) { s with heap:=h',toks:=t' }:=I.un (Un.write mu he k heo) (I.hok.write mu he k heo new)
theorem Inv.pins_of {pins':List (Addr × Obj)} (I:Inv X pins σ H s) (h:∀ p ∈ pins',s.heap.get? p.1=some p.2/\H p.1=none/\p.1 ≠ X.env.locals/\p.1 ∉ X.fs/\∀ v,p.2.data ≠ .cell v):Inv X pins' σ H s:=
 ⟨I.ok,I.os,I.bare,I.base,I.loc,I.cell,I.free,I.freeC,fun p hp=>(List.mem_append.mp hp).elim (fun z=>I.pin p (List.mem_append_left _ z)) (h p),I.hok,I.len⟩
theorem nodup_ix {N:List Str} (hN:N.Nodup) {i j:Nat} {x:Str} (a:N[i]?=some x) (b:N[j]?=some x):i=j:=by
 obtain ⟨h1,e1⟩:=List.getElem?_eq_some_iff.mp a
 obtain ⟨h2,e2⟩:=List.getElem?_eq_some_iff.mp b
 exact (List.getElem_inj hN).mp (e1.trans e2.symm)
theorem store_ok2 {M:Model} {A:Around} {E:Value->Shared->Prop} {i:Nat} {x:Str} {v:V} {u:Value} {Q:Unit->Shared->Prop} (I:Inv X pins σ H s) (hN:X.N.Nodup) (hi:X.N[i]?=some x) (hx:Loc X.env.scope x) (r:RelV v u)
  (h:∀ s',Inv X pins (σ.set i (some v)) H s'->(∃ a,Heap.SameBut a s.heap s'.heap/\(a=X.env.locals\/X.env.cells.lookup x=some a))->Q () s') (hf:X.fn x=true\/X.env.scope.names.lookup x=some .local:=by first | exact .inl rfl | exact .inr rfl | assumption):wpAny M A (storeName X.env x u) Q E s:=by
 obtain ⟨m,hn,hl⟩:=id I.loc
 have hcls:(X.env.scope.kind == .class || (X.env.scope.kind == .module && X.env.locals != X.env.globals))=false:=by rw [I.ok.kind];rfl
 have hiσ:i < σ.length:=by rw [I.len];exact (List.getElem?_eq_some_iff.mp hi).1
 have cne:=I.cne
 have tracked:∀ {a:Addr} {h':Heap},(∃ o,s.heap.get? a=some o/\H a=none)->Heap.SameBut a s.heap h'->HOk X.prog X.w H h':=fun {a h'} ha hs b ob e=>by
  obtain ⟨_,_,hfree⟩:=ha
  refine (I.hok b ob e).stay (fun c w' hc q=>(hs.2 c ?_).trans q) (fun _ q=>q) fun _ _ q=>q
  rintro rfl
  rcases hc with rfl | hc
  ·rw [hfree] at e;cases e
  ·rw [hfree] at hc;cases hc
 rcases hx with hk | hk
 ·refine wpAny_storeName_local hk hn (fun h' hn' hs=>?_) hcls
  obtain ⟨oL,_,_,hoL,_⟩:=id hn
  refine h _ ⟨I.ok,I.os,I.bare,⟨fun b o e n hb hx=>?_,fun b o e n hb hx=>?_,I.base.free,fun b o e hx=>?_,I.base.tups,I.base.frzs,I.base.tbls⟩,⟨_,hn',fun j y v' e1 e2 e3=>?_⟩,fun y c e=>?_,I.free,I.freeC,fun p hp=>?_,tracked ⟨oL,hoL,I.free⟩ hs,by simpa using I.len⟩ ⟨_,hs,.inl rfl⟩
  ·exact (hs.2 b (Nat.ne_of_lt (Nat.lt_of_lt_of_le (Heap.lt_size e) I.ok.above))).trans (I.base.keep b o e n hb hx)
  ·obtain ⟨sl,e1⟩:=I.base.slot b o e n hb hx
   exact ⟨sl,(hs.2 b (Nat.ne_of_lt (Nat.lt_of_lt_of_le (Heap.lt_size e) I.ok.above))).trans e1⟩
  ·obtain ⟨o',e1⟩:=I.base.there b o e hx
   exact ⟨o',(hs.2 b (Nat.ne_of_lt (Nat.lt_of_lt_of_le (Heap.lt_size e) I.ok.above))).trans e1⟩
  ·by_cases hj:j=i
   ·subst hj
    rw [hi] at e1;cases e1
    rw [List.getElem?_set_self hiσ] at e2
    cases e2
    exact ⟨u,r,.inl ⟨hk,by simp⟩⟩
   ·rw [List.getElem?_set_ne (Ne.symm hj)] at e2
    obtain ⟨u',r',q⟩:=hl j y v' e1 e2 e3
    refine ⟨u',r',?_⟩
    rcases q with ⟨k,e⟩ | ⟨k,c,e,z⟩
    ·refine .inl ⟨k,?_⟩
     have:y ≠ x:=fun e=>hj (nodup_ix hN e1 (e ▸ hi))
     simp [this,e]
    ·exact .inr ⟨k,c,e,z.sameBut hs (cne y c e)⟩
  ·obtain ⟨w',z⟩:=I.cell y c e
   exact ⟨w',z.sameBut hs (cne y c e)⟩
  ·obtain ⟨e,n,ne,nf,d⟩:=I.pin p hp
   exact ⟨(hs.2 p.1 ne).trans e,n,ne,nf,d⟩
 ·have hfn:X.fn x=true:=by
   rcases hf with z | z
   ·exact z
   ·rw [z] at hk;cases hk
  obtain ⟨c,hc⟩:=I.ok.has x (.inl hk)
  obtain ⟨w',z⟩:=I.cell x c hc
  refine wpAny_storeName_cell I.ok.kind hk hc z (fun h' hc' hs=>?_)
  obtain ⟨oc,hoc,hocd⟩:=id z
  refine h { s with heap:=h' } ⟨I.ok,I.os,I.bare,⟨fun b o e n hb hx=>?_,fun b o e n hb hx=>?_,I.base.free,fun b o e hx=>?_,I.base.tups,I.base.frzs,I.base.tbls⟩,⟨m,hn.sameBut hs (Ne.symm (cne x c hc)),fun j y v' e1 e2 e3=>?_⟩,fun y c' e=>?_,I.free,I.freeC,fun p hp=>?_,tracked ⟨oc,hoc,I.freeC x c hc⟩ hs,by simpa using I.len⟩ ⟨c,hs,.inr hc⟩
  ·exact (hs.2 b (Nat.ne_of_lt (Nat.lt_of_lt_of_le (Heap.lt_size e) (I.ok.cab x c hfn hc)))).trans (I.base.keep b o e n hb hx)
  ·obtain ⟨sl,e1⟩:=I.base.slot b o e n hb hx
   exact ⟨sl,(hs.2 b (Nat.ne_of_lt (Nat.lt_of_lt_of_le (Heap.lt_size e) (I.ok.cab x c hfn hc)))).trans e1⟩
  ·obtain ⟨o',e1⟩:=I.base.there b o e hx
   exact ⟨o',(hs.2 b (Nat.ne_of_lt (Nat.lt_of_lt_of_le (Heap.lt_size e) (I.ok.cab x c hfn hc)))).trans e1⟩
  ·by_cases hj:j=i
   ·subst hj
    rw [hi] at e1;cases e1
    rw [List.getElem?_set_self hiσ] at e2
    cases e2
    exact ⟨u,r,.inr ⟨.inl hk,c,hc,hc'⟩⟩
   ·rw [List.getElem?_set_ne (Ne.symm hj)] at e2
    obtain ⟨u',r',q⟩:=hl j y v' e1 e2 e3
    refine ⟨u',r',?_⟩
    rcases q with q | ⟨k,c',e,z'⟩
    ·exact .inl q
    ·refine .inr ⟨k,c',e,z'.sameBut hs ?_⟩
     rintro rfl
     exact hj (nodup_ix hN e1 (I.ok.inj _ _ _ e hc ▸ hi))
  ·by_cases hcc:c'=c
   ·subst hcc;exact ⟨_,hc'⟩
   ·obtain ⟨w2,z2⟩:=I.cell y c' e
    exact ⟨w2,z2.sameBut hs hcc⟩
  ·obtain ⟨e,n,ne,nf,d⟩:=I.pin p hp
   refine ⟨(hs.2 p.1 ?_).trans e,n,ne,nf,d⟩
   intro q
   rw [q,hoc] at e
   have q':oc=p.2:=Option.some.inj e
   exact d w' (by rw [<-q'];exact hocd)
theorem store_ok {M:Model} {A:Around} {E:Value->Shared->Prop} {i:Nat} {x:Str} {v:V} {u:Value} {Q:Unit->Shared->Prop} (I:Inv X pins σ H s) (hN:X.N.Nodup) (hi:X.N[i]?=some x) (hx:Loc X.env.scope x) (r:RelV v u)
  (h:∀ s',Inv X pins (σ.set i (some v)) H s'->Q () s') (hf:X.fn x=true\/X.env.scope.names.lookup x=some .local:=by first | exact .inl rfl | exact .inr rfl | assumption):wpAny M A (storeName X.env x u) Q E s:=
 store_ok2 I hN hi hx r (fun s' I' _=>h s' I') hf
theorem Inv.call' {s':Shared} {ch:List Addr} (I:Inv X pins σ H s) (ho:s'.os=s.os) (u:Un (frs X.stack) ch H H' s.heap s'.heap) (hok:HOk X.prog X.w H' s'.heap) (hg:AllBare s'.gens)
  (hch:∀ b ∈ ch,(b ∈ X.ex\/X.s₀.heap.objs.size<=b)/\b ≠ X.env.locals/\(∀ x c,X.env.cells.lookup x=some c->c ≠ b)/\∀ p ∈ X.pn++pins,p.1 ≠ b):Inv X pins σ H' s':=by
 obtain ⟨h',g',d',t',o'⟩:=s'
 have e:o'=s.os:=ho
 subst e
 exact I.call (g':=g') (t':=t') (d':=d') u hok hg hch
end
abbrev XK:=Value->Option Addr->Hp->Prop
abbrev St:=List (Option V)
abbrev VK:=V->Hp->Prop
abbrev TE:=St->Hp->VK->Prop
abbrev TT:=St->Hp->(Bool->Hp->Prop)->Prop
abbrev TA:=St->Hp->(List V->Hp->Prop)->Prop
structure Ends where
 nx:St->Hp->Prop
 rt:VK
 bk:St->Hp->Prop:=fun _ _=>False
 ct:St->Hp->Prop:=fun _ _=>False
abbrev TS:=Ends->St->Hp->Prop
def EP (X:Cx) (pins:List (Addr × Obj)) (σ:St) (Q:VK) (u:Value) (s':Shared):Prop:=∃ v H',Inv X pins σ H' s'/\RelV v u/\Q v H'
def TP (X:Cx) (pins:List (Addr × Obj)) (σ:St) (Q:Bool->Hp->Prop) (b:Bool) (s':Shared):Prop:=∃ H',Inv X pins σ H' s'/\Q b H'
def AP (X:Cx) (pins:List (Addr × Obj)) (σ:St) (Q:List V->Hp->Prop) (us:List Value) (s':Shared):Prop:=∃ vs H',Inv X pins σ H' s'/\Vals vs us/\Q vs H'
def SP (X:Cx) (pins:List (Addr × Obj)) (D:Ends) (f:Flow) (s':Shared):Prop:=
 match f with
 | .next=>∃ σ' H',Inv X pins σ' H' s'/\D.nx σ' H'
 | .brk=>∃ σ' H',Inv X pins σ' H' s'/\D.bk σ' H'
 | .cont=>∃ σ' H',Inv X pins σ' H' s'/\D.ct σ' H'
 | .ret u=>∃ v σ' H',Inv X pins σ' H' s'/\RelV v u/\D.rt v H'
def PE (X:Cx) (e:Expr) (t:TE):Prop:=
 ∀ (pins:List (Addr × Obj)) (s:Shared) (σ:St) (H:Hp) (Q:VK),Inv X pins σ H s->t σ H Q->wpAny (model X.prog X.w) X.A (eval e X.env) (EP X pins σ Q) X.xe s
def PT (X:Cx) (e:Expr) (t:TT):Prop:=
 ∀ (pins:List (Addr × Obj)) (s:Shared) (σ:St) (H:Hp) (Q:Bool->Hp->Prop),Inv X pins σ H s->t σ H Q->wpAny (model X.prog X.w) X.A (isTrue e X.env (eval e X.env)) (TP X pins σ Q) X.xe s
def PW (X:Cx) (e:Expr) (t:TT):Prop:=
 ∀ (whole:Sem Value) (pins:List (Addr × Obj)) (s:Shared) (σ:St) (H:Hp) (Q:Bool->Hp->Prop),Inv X pins σ H s->t σ H Q->wpAny (model X.prog X.w) X.A (isTrue e X.env whole) (TP X pins σ Q) X.xe s
theorem PW.pt {X:Cx} {e:Expr} {t:TT} (h:PW X e t):PT X e t:=h _
def PA (X:Cx) (es:List Expr) (t:TA):Prop:=
 ∀ (pos:Pos) (pins:List (Addr × Obj)) (s:Shared) (σ:St) (H:Hp) (Q:List V->Hp->Prop),Inv X pins σ H s->t σ H Q->wpAny (model X.prog X.w) X.A (spliced (backTo pos (starEach es X.env))) (AP X pins σ Q) X.xe s
def PS (X:Cx) (st:Stmt) (t:TS):Prop:=
 ∀ (pins:List (Addr × Obj)) (s:Shared) (σ:St) (H:Hp) (D:Ends),Inv X pins σ H s->t D σ H->wpAny (model X.prog X.w) X.A (exec st X.env) (SP X pins D) X.xe s
def PSs (X:Cx) (st:List Stmt) (t:TS):Prop:=
 ∀ (pins:List (Addr × Obj)) (s:Shared) (σ:St) (H:Hp) (D:Ends),Inv X pins σ H s->t D σ H->wpAny (model X.prog X.w) X.A (execs st X.env) (SP X pins D) X.xe s
theorem thn {α:Type} {t:Sem α} {Q Q':α->Shared->Prop} {M:Model} {A:Around} {E:Value->Shared->Prop} {s:Shared} (h:wpAny M A t Q E s) (hQ:∀ a s,Q a s->Q' a s):wpAny M A t Q' E s:=wpAny_mono h hQ fun _ _ x=>x
end L2
namespace L2
open PySem PySem.Spec PyProof.Rows
section
variable {X:Cx}
def tVar (i:Nat):TE:=fun σ H Q=>∃ v,σ[i]?=some (some v)/\Q v H
def tC (v:V):TE:=fun _ H Q=>Q v H
theorem pe_var {i:Nat} {x:Str} {pos:Pos} (hN:X.N[i]?=some x) (hv:Vis X.env.scope x) (hd:(x == ("__debug__" : Str))=false:=by decide) (hcd:(x == ("__classdict__" : Str))=false:=by decide):PE X (.Name x pos) (tVar i):=by
 intro pins s σ H Q I h
 obtain ⟨v,e,h⟩:=h
 obtain ⟨m,hn,hl⟩:=I.loc
 obtain ⟨u,r,l⟩:=hl i x v hN e hv
 have fin:EP X pins σ Q u s:=⟨v,H,I,r,h⟩
 rcases l with ⟨hk,hm⟩ | ⟨hk,c,hc,hcell⟩
 ·exact wpAny_Name (wpAny_loadName_local I.ok.kind hk hn hm fin) hd
 ·rcases hk with hk | hk
  ·exact wpAny_Name (wpAny_loadName_cell I.ok.kind hk hc hcell fin) hd
  ·exact wpAny_Name (wpAny_loadName_free I.ok.kind hk hc hcell fin hcd) hd
theorem pe_int {i j pos}:PE X (.Constant (.int i) j pos) (tC (.int i)):=fun _ _ _ H _ I h=>wpAny_Constant_int ⟨.int i,H,I.tok _,⟨_,rfl⟩,h⟩
theorem pe_bl {b j pos}:PE X (.Constant (.bool b) j pos) (tC (.bl b)):=fun _ _ _ H _ I h=>Constant_bool ⟨.bl b,H,I,rfl,h⟩
theorem pe_non {j pos}:PE X (.Constant .none j pos) (tC .non):=fun _ _ _ H _ I h=>Constant_none ⟨.non,H,I,rfl,h⟩
theorem pe_str {x j pos}:PE X (.Constant (.str x) j pos) (tC (.str x)):=fun _ _ _ H _ I h=>Calls.Constant_str ⟨.str x,H,I.tok _,⟨_,rfl⟩,h⟩
def Gl (X:Cx) (x:Str):Prop:=X.env.kindOf x=some .globalImplicit
theorem ld_glob {E:Value->Shared->Prop} {pins:List (Addr × Obj)} {s:Shared} {σ:St} {H:Hp} {x:Str} {u:Value} {pos:Pos} {Q:Value->Shared->Prop} (I:Inv X pins σ H s) (hg:Gl X x) (hm:X.mg x=some u) (h:Q u s)
  (hd:(x == ("__debug__" : Str))=false:=by decide):wpAny (model X.prog X.w) X.A (eval (.Name x pos) X.env) Q E s:=
 Calls.Name_function_global I.ok.kind hg (Calls.loadGlobal_global (by rw [I.ok.glob];exact I.mod.glob.keeps I.bk) hm h) hd
theorem ld_blt {E:Value->Shared->Prop} {pins:List (Addr × Obj)} {s:Shared} {σ:St} {H:Hp} {x:Str} {u:Value} {pos:Pos} {Q:Value->Shared->Prop} (I:Inv X pins σ H s) (hg:Gl X x) (hm:X.mg x=none) (hv:bootBuiltins x=some u) (h:Q u s)
  (hn:x ≠ "__name__" := by decide) (hd:(x == ("__debug__" : Str))=false:=by decide):wpAny (model X.prog X.w) X.A (eval (.Name x pos) X.env) Q E s:=by
 obtain ⟨mb,h1,h2⟩:=I.mod.blt
 exact Calls.Name_function_global I.ok.kind hg (Calls.loadGlobal_builtin (by rw [I.ok.glob];exact I.mod.glob.keeps I.bk) hm (by rw [I.ok.blt];exact h1.keeps I.bk) ((h2 x hn).trans hv) h) hd
theorem pe_glob {x:Str} {v:V} {u:Value} {pos:Pos} (hg:Gl X x) (hm:X.mg x=some u) (r:RelV v u) (hd:(x == ("__debug__" : Str))=false:=by decide):PE X (.Name x pos) (tC v):=
 fun _ _ _ H _ I h=>ld_glob I hg hm ⟨v,H,I,r,h⟩ hd
theorem pe_bltn {x:Str} {v:V} {u:Value} {pos:Pos} (hg:Gl X x) (hm:X.mg x=none) (hv:bootBuiltins x=some u) (r:RelV v u) (hn:x ≠ "__name__" := by decide) (hd:(x == ("__debug__" : Str))=false:=by decide):PE X (.Name x pos) (tC v):=
 fun _ _ _ H _ I h=>ld_blt I hg hm hv ⟨v,H,I,r,h⟩ hn hd
variable {a b:Expr} {ta tb:TE} {pos:Pos}
def tB (t:TE):TT:=fun σ H Q=>t σ H fun x H1=>∃ c,x=.bl c/\Q c H1
theorem pt_val {e:Expr} {t:TE} (h:PE X e t) (he:∀ whole,isTrue e X.env whole=(do let v <-whole;standAt e.pos;holding [v] (truthy v)):=by intro _;rfl):PT X e (tB t):=by
 intro pins s σ H Q I hw
 refine isTrue_plain (thn (h pins s σ H _ I hw) fun v s1 ⟨x,H1,I1,r1,q1⟩=>?_) (he _)
 obtain ⟨d,rfl,q⟩:=q1
 cases r1
 exact wpAny_truthy_bool ⟨H1,I1,q⟩
variable {tA tB':TT} {rest:List Expr}
def tAnd (t u:TT):TT:=fun σ H Q=>t σ H fun c H1=>if c=true then u σ H1 Q else Q false H1
def tOr (t u:TT):TT:=fun σ H Q=>t σ H fun c H1=>if c=true then Q true H1 else u σ H1 Q
def tNot (t:TT):TT:=fun σ H Q=>t σ H fun c H1=>Q (!c) H1
theorem pw_and1 (ha:PT X a tA):PW X (.BoolOp .And [a] pos) tA:=by
 intro wh pins s σ H Q I h
 refine isTrue_and (thn (ha pins s σ H Q I h) fun c s1 e=>?_)
 cases c with
 | true=>exact isTrue_and_nil e
 | false=>exact e
theorem pw_or1 (ha:PT X a tA):PW X (.BoolOp .Or [a] pos) tA:=by
 intro wh pins s σ H Q I h
 refine isTrue_or (thn (ha pins s σ H Q I h) fun c s1 e=>?_)
 cases c with
 | false=>exact isTrue_or_nil e
 | true=>exact e
theorem pw_and (ha:PT X a tA) (hb:PW X (.BoolOp .And (b :: rest) pos) tB'):PW X (.BoolOp .And (a :: b :: rest) pos) (tAnd tA tB'):=by
 intro wh pins s σ H Q I h
 refine isTrue_and (thn (ha pins s σ H _ I h) fun c s1 ⟨H1,I1,q1⟩=>?_)
 cases c with
 | true=>exact hb wh pins s1 σ H1 Q I1 q1
 | false=>exact ⟨H1,I1,q1⟩
theorem pw_or (ha:PT X a tA) (hb:PW X (.BoolOp .Or (b :: rest) pos) tB'):PW X (.BoolOp .Or (a :: b :: rest) pos) (tOr tA tB'):=by
 intro wh pins s σ H Q I h
 refine isTrue_or (thn (ha pins s σ H _ I h) fun c s1 ⟨H1,I1,q1⟩=>?_)
 cases c with
 | true=>exact ⟨H1,I1,q1⟩
 | false=>exact hb wh pins s1 σ H1 Q I1 q1
theorem pt_not (ha:PT X a tA):PT X (.UnaryOp .Not a pos) (tNot tA):=by
 intro pins s σ H Q I h
 exact isTrue_not (ha pins s σ H (fun c H1=>Q (!c) H1) I h)
def tAndV (ta tb:TE):TE:=fun σ H Q=>ta σ H fun x H1=>∃ c,x=.bl c/\if c=true then tb σ H1 Q else Q (.bl false) H1
theorem pe_one {op} {t:TE} (h:PE X a t):PE X (.BoolOp op [a] pos) t:=fun pins s σ H Q I hw=>BoolOp_one (h pins s σ H Q I hw)
theorem pe_and (ha:PE X a ta) (hb:PE X (.BoolOp .And (b :: rest) pos) tb):PE X (.BoolOp .And (a :: b :: rest) pos) (tAndV ta tb):=by
 intro pins s σ H Q I h
 refine BoolOp_and (thn (ha pins s σ H _ I h) fun v s1 ⟨x,H1,I1,r1,q1⟩=>?_)
 obtain ⟨c,rfl,q1⟩:=q1
 cases r1
 refine wpAny_truthy_bool ?_
 cases c with
 | true=>exact hb pins s1 σ H1 Q I1 q1
 | false=>exact ⟨.bl false,H1,I1,rfl,q1⟩
def tIf (t:TT) (ta tb:TE):TE:=fun σ H Q=>t σ H fun c H1=>if c=true then ta σ H1 Q else tb σ H1 Q
theorem pe_ifExp {c:Expr} (hc:PT X c tA) (ha:PE X a ta) (hb:PE X b tb):PE X (.IfExp c a b pos) (tIf tA ta tb):=by
 intro pins s σ H Q I h
 refine wpAny_IfExp (thn (hc pins s σ H _ I h) fun d s1 ⟨H1,I1,q1⟩=>?_)
 cases d with
 | true=>exact ha pins s1 σ H1 Q I1 q1
 | false=>exact hb pins s1 σ H1 Q I1 q1
end
end L2
namespace L2
open PySem PySem.Spec PyProof.Rows
def SqL (K:PySem.W.Frag) (H:Hp) (a:Addr) (xs:List V):Prop:=
 Rd H a (.lst xs) ∨
  ∃ (o:Obj) (its:Array Value) (n:Nat),K.lookup a=some o/\o.cls=.type "list"/\o.dict=none/\o.data=.seq its n/\its.size<=sizeLine/\Vals xs its.toList
def SqT (K:PySem.W.Frag) (H:Hp) (a:Addr) (xs:List V):Prop:=
 Rd H a (.tup xs) ∨
  ∃ (o:Obj) (its:Array Value) (n:Nat),K.lookup a=some o/\o.cls=.type "tuple"/\o.data=.seq its n/\its.size<=sizeLine/\Vals xs its.toList
def absV:Value->Option V
 | .none=>some .non
 | .bool b=>some (.bl b)
 | .int i _=>some (.int i)
 | .str x _=>some (.str x)
 | .bytes b _=>some (.byt b)
 | .float b _=>some (.flt b)
 | .ref a=>some (.ref a)
 | .type n=>some (.ty n)
 | _=>none
theorem RelV.abs {x:V} {u:Value} (r:RelV x u):absV u=some x:=by
 cases x with
 | non=>cases r;rfl
 | bl _=>cases r;rfl
 | int _=>obtain ⟨t,rfl⟩:=r;rfl
 | str _=>obtain ⟨t,rfl⟩:=r;rfl
 | byt _=>obtain ⟨t,rfl⟩:=r;rfl
 | flt _=>obtain ⟨t,rfl⟩:=r;rfl
 | ref _=>cases r;rfl
 | ty _=>cases r;rfl
theorem RelV.inj {x y:V} {u:Value} (r:RelV x u) (q:RelV y u):x=y:=Option.some.inj (r.abs.symm.trans q.abs)
theorem Vals.inj:∀ {xs ys:List V} {us:List Value},Vals xs us->Vals ys us->xs=ys
 | _,_,_,.nil,.nil=>rfl
 | _,_,_,.cons r t,.cons r' t'=>by rw [r.inj r',Vals.inj t t']
section
variable {X:Cx} {pins:List (Addr × Obj)} {σ:St} {H:Hp} {s:Shared} {a:Addr} {xs ys:List V}
theorem SqL.of {K:PySem.W.Frag} (h:H a=some (.lst xs)):SqL K H a xs:=.inl (.inl h)
theorem SqT.of {K:PySem.W.Frag} (h:H a=some (.tup xs)):SqT K H a xs:=.inl (.inl h)
theorem Inv.list (I:Inv X pins σ H s) (h:SqL X.K H a xs):∃ its:List Value,Vals xs its/\PlainL s.heap a its.toArray/\xs.length<=sizeLine:=by
 rcases h with h | ⟨o,its,n,hk,hc,hd,hs,hz,r⟩
 ·obtain ⟨z,its,n,r,e⟩:=h.ok I.hok
  exact ⟨its,r,⟨_,n,e,rfl,rfl,rfl⟩,z⟩
 ·refine ⟨its.toList,r,⟨o,n,I.kIn a o hk,hc,hd,by simpa using hs⟩,?_⟩
  have e:=r.length
  simp only [Array.length_toList] at e
  omega
theorem Inv.tuple (I:Inv X pins σ H s) (h:SqT X.K H a xs):∃ its:List Value,Vals xs its/\IsTup s.heap a its.toArray/\xs.length<=sizeLine:=by
 rcases h with h | ⟨o,its,n,hk,hc,hs,hz,r⟩
 ·obtain ⟨z,its,r,p⟩:=h.ok I.hok
  exact ⟨its,r,p,z⟩
 ·refine ⟨its.toList,r,⟨o,I.kIn a o hk,hc,n,by simpa using hs⟩,?_⟩
  have e:=r.length
  simp only [Array.length_toList] at e
  omega
theorem Inv.list_inj (I:Inv X pins σ H s) (h:SqL X.K H a xs) (h':SqL X.K H a ys):xs=ys:=by
 obtain ⟨its,r,⟨o,n,e,_,_,d⟩,_⟩:=I.list h
 obtain ⟨its',r',⟨o',n',e',_,_,d'⟩,_⟩:=I.list h'
 rw [e] at e';cases e'
 rw [d] at d'
 injection d' with d1 _
 have:its=its':=by simpa using congrArg Array.toList d1
 subst this
 exact r.inj r'
theorem Inv.tuple_inj (I:Inv X pins σ H s) (h:SqT X.K H a xs) (h':SqT X.K H a ys):xs=ys:=by
 obtain ⟨its,r,⟨o,e,_,n,d⟩,_⟩:=I.tuple h
 obtain ⟨its',r',⟨o',e',_,n',d'⟩,_⟩:=I.tuple h'
 rw [e] at e';cases e'
 rw [d] at d'
 injection d' with d1 _
 have:its=its':=by simpa using congrArg Array.toList d1
 subst this
 exact r.inj r'
end
abbrev Cx.wish (X:Cx) (E:Value->Shared->Prop):Cx:={ X with xe:=E }
abbrev Cx.nox (X:Cx):Cx:=X.wish fun _ _=>False
theorem Cx.Ok.wish {X:Cx} (ok:X.Ok) (E:Value->Shared->Prop):(X.wish E).Ok:=
 ⟨ok.mod,ok.kind,ok.glob,ok.blt,ok.above,ok.inj,ok.has,ok.cab,ok.hd,ok.frames,ok.stk,ok.exf,ok.bs,ok.bsz,ok.noex,ok.exfs,ok.funs,ok.frf⟩
theorem Cx.Ok.unwish {X:Cx} {E:Value->Shared->Prop} (ok:(X.wish E).Ok):X.Ok:=
 ⟨ok.mod,ok.kind,ok.glob,ok.blt,ok.above,ok.inj,ok.has,ok.cab,ok.hd,ok.frames,ok.stk,ok.exf,ok.bs,ok.bsz,ok.noex,ok.exfs,ok.funs,ok.frf⟩
section
variable {X:Cx} {pins:List (Addr × Obj)} {σ:St} {H:Hp} {s:Shared} {E:Value->Shared->Prop}
theorem Inv.wish (I:Inv X pins σ H s) (E:Value->Shared->Prop):Inv (X.wish E) pins σ H s:=⟨I.ok.wish E,I.os,I.bare,I.base,I.loc,I.cell,I.free,I.freeC,I.pin,I.hok,I.len⟩
theorem Inv.unwish (I:Inv (X.wish E) pins σ H s):Inv X pins σ H s:=⟨I.ok.unwish,I.os,I.bare,I.base,I.loc,I.cell,I.free,I.freeC,I.pin,I.hok,I.len⟩
theorem SP.unwish {D:Ends} {f:Flow} {s':Shared} (h:SP (X.wish E) pins D f s'):SP X pins D f s':=by
 cases f with
 | next=>obtain ⟨σ',H',I,q⟩:=h;exact ⟨σ',H',I.unwish,q⟩
 | brk=>obtain ⟨σ',H',I,q⟩:=h;exact ⟨σ',H',I.unwish,q⟩
 | cont=>obtain ⟨σ',H',I,q⟩:=h;exact ⟨σ',H',I.unwish,q⟩
 | ret u=>obtain ⟨v,σ',H',I,r,q⟩:=h;exact ⟨v,σ',H',I.unwish,r,q⟩
theorem PSs.nox {st:List Stmt} {t:TS} (h:PSs X.nox st t):PSs X st t:=fun pins s σ H D I hw=>
 wpAny_mono (h pins s σ H D (I.wish _) hw) (fun _ _ q=>q.unwish) fun _ _ z=>False.elim z
end
section
variable {X:Cx} {st:Stmt} {rest:List Stmt} {t u:TS} {e:Expr} {te:TE} {pos:Pos}
def tNext:TS:=fun D σ H=>D.nx σ H
def tSeq (t u:TS):TS:=fun D σ H=>t { D with nx:=u D } σ H
theorem pss_nil:PSs X [] tNext:=fun _ _ σ H _ I h=>wpAny_execs_nil ⟨σ,H,I,h⟩
theorem pss_cons (h1:PS X st t) (h2:PSs X rest u):PSs X (st :: rest) (tSeq t u):=by
 intro pins s σ H D I h
 refine wpAny_execs_cons (thn (h1 pins s σ H { D with nx:=u D } I h) fun f s1 q=>?_)
 cases f with
 | next=>
  obtain ⟨σ',H',I',q⟩:=q
  exact h2 pins s1 σ' H' D I' q
 | ret v=>exact q
 | brk=>exact q
 | cont=>exact q
theorem pss_one (h1:PS X st t):PSs X [st] t:=by
 intro pins s σ H D I h
 refine wpAny_execs_cons (thn (h1 pins s σ H D I h) fun f s1 q=>?_)
 cases f with
 | next=>exact wpAny_execs_nil q
 | ret v=>exact q
 | brk=>exact q
 | cont=>exact q
theorem Inv.quiet {pins:List (Addr × Obj)} {σ:St} {H:Hp} {s:Shared} (I:Inv X pins σ H s):interactive X.env=false:=by simp [interactive,I.ok.kind]
def tDrop (te:TE):TS:=fun D σ H=>te σ H fun _ H1=>D.nx σ H1
theorem ps_expr (he:PE X e te) (hs:swapsWith e none pos.line X.env=pure false:=by rfl):PS X (.Expr e pos) (tDrop te):=by
 intro pins s σ H D I h
 exact wpAny_Expr_any (thn (he pins s σ H _ I h) fun v s1 ⟨x,H1,I1,r1,q1⟩=>⟨σ,H1,I1,q1⟩) I.quiet hs
def tRet (te:TE):TS:=fun D σ H=>te σ H D.rt
theorem ps_ret (he:PE X e te):PS X (.Return (some e) pos) (tRet te):=by
 intro pins s σ H D I h
 exact wpAny_Return_some (thn (he pins s σ H _ I h) fun v s1 ⟨x,H1,I1,r1,q1⟩=>⟨x,σ,H1,I1,r1,q1⟩)
def tIfS (c:TT) (t u:TS):TS:=fun D σ H=>c σ H fun b H1=>if b=true then t D σ H1 else u D σ H1
theorem ps_if {c:Expr} {a b:List Stmt} {tc:TT} (hc:PT X c tc) (ha:PSs X a t) (hb:PSs X b u):PS X (.If c a b pos) (tIfS tc t u):=by
 intro pins s σ H D I h
 refine wpAny_If (thn (hc pins s σ H _ I h) fun d s1 ⟨H1,I1,q1⟩=>?_)
 cases d with
 | true=>exact ha pins s1 σ H1 D I1 q1
 | false=>exact hb pins s1 σ H1 D I1 q1
def tNever:TS:=fun _ _ _=>False
theorem pss_never {sts:List Stmt}:PSs X sts tNever:=fun _ _ _ _ _ _ h=>h.elim
end
abbrev TG:=V->St->Hp->(St->Hp->Prop)->Prop
abbrev TGs:=List V->St->Hp->(St->Hp->Prop)->Prop
def PG (X:Cx) (target:Expr) (t:TG):Prop:=
 ∀ (pins:List (Addr × Obj)) (s:Shared) (σ:St) (H:Hp) (v:V) (u:Value) (Q:St->Hp->Prop),Inv X pins σ H s->RelV v u->t v σ H Q →
  wpAny (model X.prog X.w) X.A (assign target X.env u) (fun _ s'=>∃ σ' H',Inv X pins σ' H' s'/\Q σ' H') X.xe s
def PGs (X:Cx) (ts:List Expr) (t:TGs):Prop:=
 ∀ (pins:List (Addr × Obj)) (s:Shared) (σ:St) (H:Hp) (vs:List V) (us:List Value) (Q:St->Hp->Prop),Inv X pins σ H s->Vals vs us->t vs σ H Q →
  wpAny (model X.prog X.w) X.A (assignInOrder ((assignEach ts X.env).map (·.2)) us) (fun _ s'=>∃ σ' H',Inv X pins σ' H' s'/\Q σ' H') X.xe s
abbrev TSet:=V->V->V->Hp->(Hp->Prop)->Prop
def PSet (X:Cx) (t:TSet):Prop:=
 ∀ (pins:List (Addr × Obj)) (s:Shared) (σ:St) (H:Hp) (o i v:V) (ov iv u:Value) (Q:Hp->Prop),Inv X pins σ H s->RelV o ov->RelV i iv->RelV v u->t o i v H Q →
  wpAny (model X.prog X.w) X.A (setItem ov iv u) (fun _ s'=>∃ H',Inv X pins σ H' s'/\Q H') X.xe s
section
variable {X:Cx} {pos:Pos}
def gName (i:Nat):TG:=fun v σ H Q=>Q (σ.set i (some v)) H
theorem pg_name {i:Nat} {x:Str} (hN:X.N.Nodup) (hi:X.N[i]?=some x) (hx:Loc X.env.scope x) (hf:X.fn x=true\/X.env.scope.names.lookup x=some .local:=by first | exact .inl rfl | exact .inr rfl | assumption):PG X (.Name x pos) (gName i):=by
 intro pins s σ H v u Q I r h
 exact wpAny_assign_Name (store_ok I hN hi hx r (fun s' I'=>⟨_,H,I',h⟩) hf)
def gNil:TGs:=fun vs σ H Q=>vs=[]/\Q σ H
def gCons (t:TG) (u:TGs):TGs:=fun vs σ H Q=>∃ v r,vs=v :: r/\t v σ H fun σ' H'=>u r σ' H' Q
theorem pgs_nil:PGs X [] gNil:=by
 intro pins s σ H vs us Q I r h
 obtain ⟨e,h⟩:=h
 subst e
 cases r
 exact assignInOrder_nil ⟨σ,H,I,h⟩
theorem pgs_cons {e:Expr} {es:List Expr} {t:TG} {u:TGs} (h1:PG X e t) (h2:PGs X es u)
  (hs:(assignEach (e :: es) X.env).map (·.2)=assign e X.env :: (assignEach es X.env).map (·.2):=by rfl):PGs X (e :: es) (gCons t u):=by
 intro pins s σ H vs us Q I r h
 obtain ⟨v,vr,e1,h⟩:=h
 subst e1
 cases r with
 | cons r rr=>
  rw [hs]
  refine assignInOrder_cons (thn (h1 pins s σ H _ _ _ I r h) fun _ s1 ⟨σ1,H1,I1,q1⟩=>?_)
  exact h2 pins s1 σ1 H1 _ _ Q I1 rr q1
def gTup (K:PySem.W.Frag) (n:Nat) (t:TGs):TG:=fun v σ H Q=>∃ a xs,v=.ref a/\SqT K H a xs/\xs.length=n/\t xs σ H Q
theorem pg_tup {es:List Expr} {k:Nat} {t:TGs} {n:Nat} (hc:X.calm=true) (h:PGs X es t)
  (hn:(assignEach es X.env).length=n:=by rfl) (hst:(assignEach es X.env).findIdx? (·.1)=none:=by rfl):PG X (.Tuple es k pos) (gTup X.K n t):=by
 intro pins s σ H v u Q I r hw
 obtain ⟨a,xs,e1,hq,hl,hw⟩:=hw
 subst e1
 cases r
 obtain ⟨its,rv,ht,hz⟩:=I.tuple hq
 refine assign_Tuple_tuple (I.ok.hd hc) ht (by simp [hn,<-hl,rv.length]) hst fun h' hx=>?_
 have I1:Inv X pins σ H { s with heap:=h' }:=I.kept (t':=s.toks) fun b o e=>hx b o (Nat.ne_of_lt (Heap.lt_size e)) e
 exact h pins _ σ H xs _ Q I1 (by simpa using rv) hw
def gSub (to ti:TE) (t:TSet):TG:=fun v σ H Q=>to σ H fun o H1=>ti σ H1 fun i H2=>t o i v H2 fun H3=>Q σ H3
theorem pg_sub {o i:Expr} {to ti:TE} {t:TSet} (ho:PE X o to) (hi:PE X i ti) (hs:PSet X t)
  (ha:∀ v,assign (.Subscript o i pos) X.env v=(do
   let ov <-holding [v] (eval o X.env)
   let iv <-holding [v,ov] (eval i X.env)
   standAt pos
   holding [v,ov,iv] (setItem ov iv v)
   release [v,ov,iv] []):=by intro _;rfl):PG X (.Subscript o i pos) (gSub to ti t):=by
 intro pins s σ H v u Q I r h
 rw [ha]
 refine wpAny_bind (wpAny_holding (thn (ho pins s σ H _ I h) fun ov s1 ⟨x,H1,I1,r1,q1⟩=>?_))
 refine wpAny_bind (wpAny_holding (thn (hi pins s1 σ H1 _ I1 q1) fun iv s2 ⟨y,H2,I2,r2,q2⟩=>?_))
 refine wpAny_bind (wpAny_standAt (wpAny_bind (wpAny_holding (thn (hs pins s2 σ H2 x y v ov iv u _ I2 r1 r2 r q2) fun _ s3 ⟨H3,I3,q3⟩=>?_))))
 exact wpAny_release ⟨σ,H3,I3,q3⟩
def tAsg (te:TE) (g:TG):TS:=fun D σ H=>te σ H fun x H1=>g x σ H1 D.nx
theorem ps_asg {tg e:Expr} {te:TE} {g:TG} (he:PE X e te) (hg:PG X tg g) (hs:swapsWithSole [tg] e pos.line X.env=pure false:=by rfl) (hw:swappedStores [tg] e X.env=pure none:=by rfl)
  (h1:(assignEach [tg] X.env).map (·.2)=[assign tg X.env]:=by rfl):PS X (.Assign [tg] e pos) (tAsg te g):=by
 intro pins s σ H D I h
 refine wpAny_Assign_stores (thn (he pins s σ H _ I h) fun v s1 ⟨x,H1,I1,r1,q1⟩=>?_) hs hw
 rw [h1]
 exact thn (hg pins s1 σ H1 x v _ I1 r1 q1) fun _ s2 q=>q
theorem ps_set {i:Nat} {x:Str} {e:Expr} {te:TE} {pos':Pos} (hN:X.N.Nodup) (hi:X.N[i]?=some x) (hx:Loc X.env.scope x) (he:PE X e te) (hs:swapsWith e (some (.Name x pos')) pos.line X.env=pure false:=by rfl) (hf:X.fn x=true\/X.env.scope.names.lookup x=some .local:=by first | exact .inl rfl | exact .inr rfl | assumption) :
  PS X (.Assign [.Name x pos'] e pos) (tAsg te (gName i)):=by
 intro pins s σ H D I h
 refine wpAny_Assign_Name (thn (he pins s σ H _ I h) fun v s1 ⟨y,H1,I1,r1,q1⟩=>?_) hs
 exact store_ok I1 hN hi hx r1 (fun s2 I2=>⟨_,H1,I2,q1⟩) hf
end
section
variable {X:Cx} {pos:Pos}
def tWhile (c:TT) (tb:TS):TS:=fun D σ H=>∃ W:Nat->St->Hp->Prop,(∃ m,W m σ H)/\∀ m σ H,W m σ H →
 c σ H fun b H1=>if b=true then ∃ N:St->Hp->Prop,(∀ σ' H',N σ' H'->∃ m',m' < m/\W m' σ' H')/\tb { D with nx:=N,ct:=N,bk:=D.nx } σ H1 else D.nx σ H1
theorem ps_while {c:Expr} {body:List Stmt} {tc:TT} {tb:TS} (hp:PassesOwn (model X.prog X.w) X.A X.env X.xe) (hc:PT X c tc) (hb:PSs X body tb):PS X (.While c body [] pos) (tWhile tc tb):=by
 intro pins s σ H D I h
 obtain ⟨W,⟨m0,w0⟩,turn⟩:=h
 refine wpAny_While (codeAny_whileLoop (fun n s'=>∃ σ' H',Inv X pins σ' H' s'/\W n σ' H') ?_ m0 ⟨σ,H,I,w0⟩)
 rintro n s1 ⟨σ1,H1,I1,w1⟩
 refine wpAny_passesOwn hp (thn (hc pins s1 σ1 H1 _ I1 (turn n σ1 H1 w1)) fun b s2 ⟨H2,I2,q2⟩=>?_)
 cases b with
 | true=>
  obtain ⟨N,hN,q2⟩:=q2
  rw [if_pos rfl]
  refine wpAny_passesOwn hp (thn (hb pins s2 σ1 H2 _ I2 q2) fun f s3 q3=>?_)
  cases f with
  | next=>
   obtain ⟨σ3,H3,I3,n3⟩:=q3
   obtain ⟨m',hm,w3⟩:=hN σ3 H3 n3
   exact ⟨m',hm,σ3,H3,I3,w3⟩
  | cont=>
   obtain ⟨σ3,H3,I3,n3⟩:=q3
   obtain ⟨m',hm,w3⟩:=hN σ3 H3 n3
   exact ⟨m',hm,σ3,H3,I3,w3⟩
  | brk=>exact q3
  | ret v=>exact q3
 | false=>
  rw [if_neg Bool.false_ne_true]
  exact wpAny_execs_nil ⟨σ1,H2,I2,q2⟩
end
structure It where
 go:Nat->Hp->Prop
 yld:Nat->Hp->V->Hp->Prop
 stop:Nat->Hp->Prop
def FpOk (X:Cx) (pins:List (Addr × Obj)) (H:Hp) (b:Addr):Prop:=
 H b=none/\b ≠ X.env.locals/\b ∉ X.fs/\(b ∈ X.ex\/X.s₀.heap.objs.size<=b)/\(∀ x c,X.env.cells.lookup x=some c->c ≠ b)/\∀ p ∈ X.pn++pins,p.1 ≠ b
theorem Inv.fpOk {X:Cx} {pins:List (Addr × Obj)} {σ:St} {H H':Hp} {s:Shared} {b:Addr} (I:Inv X pins σ H s) (hb:s.heap.objs.size<=b) (hn:H' b=none):FpOk X pins H' b:=by
 refine ⟨hn,Nat.ne_of_gt (Nat.lt_of_lt_of_le I.lt hb),I.nofs hb,.inr (Nat.le_trans I.sz hb),fun x c e z=>?_,fun p hp z=>?_⟩
 ·obtain ⟨v,q⟩:=I.cell x c e
  exact absurd (Nat.lt_of_lt_of_le q.lt (by rw [z];exact hb)) (Nat.lt_irrefl _)
 ·exact absurd (Nat.lt_of_lt_of_le (Heap.lt_size (I.pin p hp).1) (by rw [z];exact hb)) (Nat.lt_irrefl _)
structure Turn (P:Program) (w:World) (K:PySem.W.Frag) (tg:Expr) (J:It) (fp:List Addr) (it:Addr) (tn:Nat->Heap->Prop):Prop where
 mem:it ∈ fp
 obj:∀ i h,tn i h->∀ b ∈ fp,∃ o,h.get? b=some o/\∀ v,o.data ≠ .cell v
 keep:∀ i h h',tn i h->(∀ b ∈ fp,∀ o,h.get? b=some o->h'.get? b=some o)->tn i h'
 item:∀ (X:Cx),X.prog=P->X.w=w->X.K=K->X.calm=true->∀ (i:Nat) (pins:List (Addr × Obj)) (s:Shared) (σ:St) (H:Hp) (E:Value->Shared->Prop),Inv X pins σ H s->(∀ b ∈ fp,FpOk X pins H b)->tn i s.heap->J.go i H →
  wpAny (model P w) X.A (pyNext (.ref it)) (fun r s1=>∃ u,r=some u ∧
   wpAny (model P w) X.A (letOwnedTupleGo tg (.ref it) u) (fun _ s2=>∃ x H',Inv X pins σ H' s2/\RelV x u/\J.yld i H x H'/\tn (i+1) s2.heap/\∀ b ∈ fp,H' b=none) E s1) E s
 done:∀ (X:Cx),X.prog=P->X.w=w->X.K=K->X.calm=true->∀ (i:Nat) (pins:List (Addr × Obj)) (s:Shared) (σ:St) (H:Hp) (E:Value->Shared->Prop),Inv X pins σ H s->(∀ b ∈ fp,FpOk X pins H b)->tn i s.heap->J.stop i H →
  wpAny (model P w) X.A (pyNext (.ref it)) (fun r s1=>r=none/\Inv X pins σ H s1) E s
 self:∀ (A:Around) (i:Nat) (s:Shared) (Q:Value->Shared->Prop) (E:Value->Shared->Prop),tn i s.heap->Q (.ref it) s->wpAny (model P w) A (pyIter (.ref it)) Q E s
abbrev TI:=St->Hp->(It->Hp->Prop)->Prop
def PIE (X:Cx) (pins:List (Addr × Obj)) (σ:St) (tg:Expr) (R:It->Hp->Prop) (itv:Value) (s2:Shared):Prop:=
 ∃ (it:Addr) (fp:List Addr) (tn:Nat->Heap->Prop) (J:It) (H':Hp),itv=.ref it/\Inv X pins σ H' s2/\Turn X.prog X.w X.K tg J fp it tn/\tn 0 s2.heap/\(∀ b ∈ fp,FpOk X pins H' b)/\R J H'
def PI (X:Cx) (tg iter:Expr) (wi:TI):Prop:=
 ∀ (pins:List (Addr × Obj)) (s:Shared) (σ:St) (H:Hp) (R:It->Hp->Prop),Inv X pins σ H s->wi σ H R →
  wpAny (model X.prog X.w) X.A (eval iter X.env) (fun v s1=>wpAny (model X.prog X.w) X.A (pyIter v) (PIE X pins σ tg R) X.xe s1) X.xe s
theorem go_of {M:Model} {A:Around} {E:Value->Shared->Prop} {s:Shared} {tg:Expr} {it:Addr} {u:Value} {o:Obj} {n:String} {vs:Array Value} {Q:Unit->Shared->Prop} (ho:s.heap.get? it=some o) (hc:o.cls=.type n) (hd:o.data=.fields vs)
    (hn:["enumerate","zip","dict_itemiterator","dict_reverseitemiterator","odict_iterator","itertools.zip_longest","itertools.pairwise"].contains n=false) (hQ:Q () s):wpAny M A (letOwnedTupleGo tg (.ref it) u) Q E s:=by
  unfold letOwnedTupleGo
  cases tg <;> first
    | exact wpAny_pure hQ
    | (cases u <;> first
        | exact wpAny_pure hQ
        | (refine wpAny_bind (wpAny_load ho ?_)
           rw [hc,hd]
           show wpAny M A (if (["enumerate","zip","dict_itemiterator","dict_reverseitemiterator","odict_iterator","itertools.zip_longest","itertools.pairwise"].contains n && vs[0]? == some (rawInt _))=true then _ else _) Q E s
           rw [if_neg (by intro h;rw [hn,Bool.false_and] at h;cases h)]
           exact wpAny_pure hQ))
def Itl (K:PySem.W.Frag) (a:Addr):It:=
 ⟨fun i H=>∃ xs x,SqL K H a xs/\xs[i]?=some x,fun i H x H'=>H'=H/\∀ xs,SqL K H a xs->xs[i]?=some x,fun i H=>∃ xs,SqL K H a xs/\xs.length<=i⟩
def Itt (K:PySem.W.Frag) (a:Addr):It:=
 ⟨fun i H=>∃ xs x,SqT K H a xs/\xs[i]?=some x,fun i H x H'=>H'=H/\∀ xs,SqT K H a xs->xs[i]?=some x,fun i H=>∃ xs,SqT K H a xs/\xs.length<=i⟩
def Itr (lo:Int) (n:Nat):It:=⟨fun i _=>i < n,fun i H x H'=>H'=H/\x=.int (lo+i),fun i _=>n<=i⟩
theorem turn_list {P:Program} {w:World} {K:PySem.W.Frag} {tg:Expr} (a it:Addr):Turn P w K tg (Itl K a) [it] it (fun i h=>h.IsListIter it a i) where
 mem:=by simp
 obj:=fun i h st b hb=>by
  have e:b=it:=by simpa using hb
  subst e
  obtain ⟨o,e,c,d⟩:=st
  exact ⟨o,e,fun v z=>by rw [d] at z;cases z⟩
 keep:=fun i h h' st k=>st.at fun o e=>k it (by simp) o e
 item:=by
  intro X hP hw hK hc i pins s σ H E I hf st hg
  subst hP hw hK
  obtain ⟨xs,x,hq,hx⟩:=hg
  obtain ⟨its,rv,p,hz⟩:=I.list hq
  obtain ⟨u,hu,ru⟩:=rv.get hx
  obtain ⟨f0,f1,f2,f3,f4,f5⟩:=hf it (by simp)
  refine wpAny_pyNext_list_item st p.isList (x:=u) (by simpa using hu) fun h' st' sb=>?_
  have I1:Inv X pins σ H { s with heap:=h' }:=I.turned (t':=s.toks) (fun b o hb e=>(sb.2 b hb).trans e) f0 f1 f3 f4 f5
  obtain ⟨o,e,c,d⟩:=id st'
  exact ⟨u,rfl,go_of (s:={ s with heap:=h' }) e c d (by decide) ⟨x,H,I1,ru,⟨rfl,fun ys hy=>by rw [I.list_inj hy hq];exact hx⟩,st',fun b hb=>(hf b hb).1⟩⟩
 done:=by
  intro X hP hw hK hc i pins s σ H E I hf st hg
  subst hP hw hK
  obtain ⟨xs,hq,hx⟩:=hg
  obtain ⟨its,rv,p,hz⟩:=I.list hq
  obtain ⟨f0,f1,f2,f3,f4,f5⟩:=hf it (by simp)
  have hl:=rv.length
  exact wpAny_pyNext_list_end (I.ok.hd hc) st p.isList (by simp;omega) fun h' eb=>⟨rfl,I.turned (t':=s.toks) (fun b o hb e=>eb b o hb e) f0 f1 f3 f4 f5⟩
 self:=fun _ _ _ _ _ st h=>wpAny_pyIter_listiter st h
theorem turn_tuple {P:Program} {w:World} {K:PySem.W.Frag} {tg:Expr} (a it:Addr):Turn P w K tg (Itt K a) [it] it (fun i h=>h.IsTupleIter it a i) where
 mem:=by simp
 obj:=fun i h st b hb=>by
  have e:b=it:=by simpa using hb
  subst e
  obtain ⟨o,e,c,d⟩:=st
  exact ⟨o,e,fun v z=>by rw [d] at z;cases z⟩
 keep:=fun i h h' st k=>st.at fun o e=>k it (by simp) o e
 item:=by
  intro X hP hw hK hc i pins s σ H E I hf st hg
  subst hP hw hK
  obtain ⟨xs,x,hq,hx⟩:=hg
  obtain ⟨its,rv,p,hz⟩:=I.tuple hq
  obtain ⟨u,hu,ru⟩:=rv.get hx
  obtain ⟨f0,f1,f2,f3,f4,f5⟩:=hf it (by simp)
  refine wpAny_pyNext_tuple_item st (show s.heap.IsTuple a its.toArray from p) (x:=u) (by simpa using hu) fun h' st' sb=>?_
  have I1:Inv X pins σ H { s with heap:=h' }:=I.turned (t':=s.toks) (fun b o hb e=>(sb.2 b hb).trans e) f0 f1 f3 f4 f5
  obtain ⟨o,e,c,d⟩:=id st'
  exact ⟨u,rfl,go_of (s:={ s with heap:=h' }) e c d (by decide) ⟨x,H,I1,ru,⟨rfl,fun ys hy=>by rw [I.tuple_inj hy hq];exact hx⟩,st',fun b hb=>(hf b hb).1⟩⟩
 done:=by
  intro X hP hw hK hc i pins s σ H E I hf st hg
  subst hP hw hK
  obtain ⟨xs,hq,hx⟩:=hg
  obtain ⟨its,rv,p,hz⟩:=I.tuple hq
  obtain ⟨f0,f1,f2,f3,f4,f5⟩:=hf it (by simp)
  have hl:=rv.length
  exact wpAny_pyNext_tuple_end (I.ok.hd hc) st (show s.heap.IsTuple a its.toArray from p) (by simp;omega) fun h' eb=>⟨rfl,I.turned (t':=s.toks) (fun b o hb e=>eb b o hb e) f0 f1 f3 f4 f5⟩
 self:=fun _ _ _ _ _ st h=>wpAny_pyIter_tupleiter st h
theorem turn_range {P:Program} {w:World} {K:PySem.W.Frag} {tg:Expr} (it:Addr) (lo:Int) (n:Nat):Turn P w K tg (Itr lo n) [it] it (fun i h=>IsRangeIter h it (lo+(i:Nat) * 1) ((n:Int) - (i:Nat)) 1) where
 mem:=by simp
 obj:=fun i h st b hb=>by
  have e:b=it:=by simpa using hb
  subst e
  exact ⟨_,st,fun v z=>by
   have z':Data.fields _=Data.cell v:=z
   cases z'⟩
 keep:=fun i h h' st k=>k it (by simp) _ st
 item:=by
  intro X hP hw hK hc i pins s σ H E I hf st hg
  subst hP hw hK
  obtain ⟨f0,f1,f2,f3,f4,f5⟩:=hf it (by simp)
  have W:=Walks.range (prog:=X.prog) (w:=X.w) (I.ok.hd hc) it lo 1 n
  refine W.item i s _ _ hg st fun v h' tk hv st' kk=>?_
  obtain ⟨t,rfl⟩:=hv
  have I1:Inv X pins σ H { s with heap:=h',toks:=tk }:=I.turned (fun b o hb e=>kk b o (by simpa using hb) e) f0 f1 f3 f4 f5
  refine ⟨_,rfl,go_of (s:={ s with heap:=h',toks:=tk }) (n := "range_iterator") st' rfl rfl (by decide) ⟨.int (lo+i),H,I1,⟨t,?_⟩,⟨rfl,rfl⟩,st',fun b hb=>(hf b hb).1⟩⟩
  rw [Int.mul_one]
 done:=by
  intro X hP hw hK hc i pins s σ H E I hf st hg
  subst hP hw hK
  obtain ⟨f0,f1,f2,f3,f4,f5⟩:=hf it (by simp)
  exact wpAny_pyNext_range_end (I.ok.hd hc) st (by have:n<=i:=hg;omega) fun h' eb=>⟨rfl,I.turned (t':=s.toks) (fun b o hb e=>eb b o hb e) f0 f1 f3 f4 f5⟩
 self:=fun _ _ _ _ _ st h=>wpAny_pyIter_rangeiter st h
end L2
namespace L2
open PySem PySem.Spec PyProof.Rows
section
variable {X:Cx} {tg:Expr}
def iList (K:PySem.W.Frag) (tl:TE):TI:=fun σ H R=>tl σ H fun x H1=>∃ a,x=.ref a/\(∃ xs,SqL K H1 a xs)/\R (Itl K a) H1
def iTup (K:PySem.W.Frag) (tl:TE):TI:=fun σ H R=>tl σ H fun x H1=>∃ a,x=.ref a/\(∃ xs,SqT K H1 a xs)/\R (Itt K a) H1
theorem pi_list {l:Expr} {tl:TE} (hl:PE X l tl):PI X tg l (iList X.K tl):=by
 intro pins s σ H R I h
 refine thn (hl pins s σ H _ I h) fun v s1 ⟨x,H1,I1,r1,q1⟩=>?_
 obtain ⟨a,e,⟨xs,hq⟩,q⟩:=q1
 subst e
 cases r1
 obtain ⟨its,rv,p,hz⟩:=I1.list hq
 refine wpAny_pyIter_list p.isList ?_
 refine ⟨s1.heap.objs.size,[s1.heap.objs.size],_,_,H1,rfl,I1.kept (t':=s1.toks) fun b o e=>Heap.get?_push_of_some _ e,turn_list a _,⟨_,Heap.get?_push_size _ rfl,rfl,rfl⟩,fun b hb=>?_,q⟩
 have e:b=s1.heap.objs.size:=by simpa using hb
 subst e
 exact I1.fpOk (Nat.le_refl _) (I1.hok.fresh (Nat.le_refl _))
theorem pi_tup {l:Expr} {tl:TE} (hl:PE X l tl):PI X tg l (iTup X.K tl):=by
 intro pins s σ H R I h
 refine thn (hl pins s σ H _ I h) fun v s1 ⟨x,H1,I1,r1,q1⟩=>?_
 obtain ⟨a,e,⟨xs,hq⟩,q⟩:=q1
 subst e
 cases r1
 obtain ⟨its,rv,p,hz⟩:=I1.tuple hq
 refine wpAny_pyIter_tuple (show s1.heap.IsTuple a its.toArray from p) ?_
 refine ⟨s1.heap.objs.size,[s1.heap.objs.size],_,_,H1,rfl,I1.kept (t':=s1.toks) fun b o e=>Heap.get?_push_of_some _ e,turn_tuple a _,⟨_,Heap.get?_push_size _ rfl,rfl,rfl⟩,fun b hb=>?_,q⟩
 have e:b=s1.heap.objs.size:=by simpa using hb
 subst e
 exact I1.fpOk (Nat.le_refl _) (I1.hok.fresh (Nat.le_refl _))
theorem range_it {pins:List (Addr × Obj)} {σ:St} {H:Hp} {s:Shared} {R:It->Hp->Prop} {E:Value->Shared->Prop} {lo hi:Int} {t u v:Tok} {tk:Nat} (I:Inv X pins σ H s) (h1:-(2 ^ 62)<=lo) (h2:lo < 2 ^ 62) (h3:-(2 ^ 62)<=hi) (h4:hi < 2 ^ 62)
  (q:R (Itr lo (hi - lo).toNat) H):wpAny (model X.prog X.w) X.A (pyIter (.ref s.heap.objs.size)) (PIE X pins σ tg R) E { s with heap:=s.heap.push { cls:=.type "range",data:=.fields #[.int lo t,.int hi u,.int 1 v] },toks:=tk }:=by
 refine wpAny_pyIter_range (IsRange.new ..) (small_one h1 h2 h3 h4) ?_
 have I1:Inv X pins σ H { s with heap:=s.heap.push { cls:=.type "range",data:=.fields #[.int lo t,.int hi u,.int 1 v] },toks:=tk }:=I.kept fun b o e=>Heap.get?_push_of_some _ e
 refine ⟨(s.heap.push { cls:=.type "range",data:=.fields #[.int lo t,.int hi u,.int 1 v] }).objs.size,[(s.heap.push { cls:=.type "range",data:=.fields #[.int lo t,.int hi u,.int 1 v] }).objs.size],_,_,H,rfl,
  I1.kept (t':=tk) fun b o e=>Heap.get?_push_of_some _ e,turn_range _ lo (hi - lo).toNat,?_,fun b hb=>?_,q⟩
 ·have e1:lo+((0:Nat):Int) * 1=lo:=by simp
  have e2:(((hi - lo).toNat:Nat):Int) - ((0:Nat):Int)=Builtin.Range.rangeSize lo hi 1:=by rw [rangeSize_one];split <;> omega
  show IsRangeIter _ _ (lo+((0:Nat):Int) * 1) ((((hi - lo).toNat:Nat):Int) - ((0:Nat):Int)) 1
  rw [e1,e2]
  exact Heap.get?_push_size _ rfl
 ·have e:b=(s.heap.push { cls:=.type "range",data:=.fields #[.int lo t,.int hi u,.int 1 v] }).objs.size:=by simpa using hb
  subst e
  exact I1.fpOk (Nat.le_refl _) (I1.hok.fresh (Nat.le_refl _))
def iRng1 (ta:TA):TI:=fun σ H R=>ta σ H fun vs H1=>∃ j:Int,vs=[.int j]/\-(2 ^ 62)<=j/\j < 2 ^ 62/\R (Itr 0 j.toNat) H1
def iRng2 (ta:TA):TI:=fun σ H R=>ta σ H fun vs H1=>∃ i j:Int,vs=[.int i,.int j]/\(-(2 ^ 62)<=i/\i < 2 ^ 62/\-(2 ^ 62)<=j/\j < 2 ^ 62)/\R (Itr i (j - i).toNat) H1
theorem pi_range1 {a:Expr} {ta:TA} {p pos:Pos} (hg:Gl X "range") (hm:X.mg "range" = none) (ha:PA X [a] ta) (hs:starEach [a] X.env=[(false,eval a X.env)]:=by rfl):PI X tg (.Call (.Name "range" p) [a] [] pos) (iRng1 ta):=by
 intro pins s σ H R I h
 refine Call_ (ld_blt I hg hm boot_range (PyProof.Rows.callWith_type1 (thn (ha pos pins s σ H _ I h) fun us s1 ⟨vs,H1,I1,r1,q1⟩=>?_) hs rfl))
 obtain ⟨j,e,q1,q2,q⟩:=q1
 subst e
 cases r1 with
 | cons r rr=>
  cases rr
  obtain ⟨t,rfl⟩:=r
  exact call_range_1 (range_it I1 (by omega) (by omega) q1 q2 (by simpa using q))
theorem pi_range2 {a b:Expr} {ta:TA} {p pos:Pos} (hg:Gl X "range") (hm:X.mg "range" = none) (ha:PA X [a,b] ta) (hs:starEach [a,b] X.env=[(false,eval a X.env),(false,eval b X.env)]:=by rfl) (hs2:starEach [b] X.env=[(false,eval b X.env)]:=by rfl) :
  PI X tg (.Call (.Name "range" p) [a,b] [] pos) (iRng2 ta):=by
 intro pins s σ H R I h
 refine Call_ (ld_blt I hg hm boot_range (PyProof.Rows.callWith_type1 (thn (ha pos pins s σ H _ I h) fun us s1 ⟨vs,H1,I1,r1,q1⟩=>?_) (by rw [hs,hs2]) (by rw [hs2];rfl)))
 obtain ⟨i,j,e,⟨q1,q2,q3,q4⟩,q⟩:=q1
 subst e
 cases r1 with
 | cons r rr=>
  cases rr with
  | cons r' rr=>
   cases rr
   obtain ⟨t,rfl⟩:=r
   obtain ⟨t',rfl⟩:=r'
   exact call_range_2 (range_it I1 q1 q2 q3 q4 q)
def tFor (wi:TI) (g:TG) (tb:TS):TS:=fun D σ H=>wi σ H fun J H1=>∃ W:Nat->Nat->St->Hp->Prop,(∃ m,W 0 m σ H1)/\∀ i m σ H,W i m σ H →
 (J.stop i H/\D.nx σ H)\/(J.go i H/\∃ N:St->Hp->Prop,(∀ σ' H',N σ' H'->∃ m',m' < m/\W (i+1) m' σ' H')/\∀ x H',J.yld i H x H'->g x σ H' fun σ2 H2=>tb { D with nx:=N,ct:=N,bk:=D.nx } σ2 H2)
def pinsAt (fp:List Addr) (h:Heap):List (Addr × Obj):=fp.filterMap fun b=>(h.get? b).map fun o=>(b,o)
theorem mem_pinsAt {fp:List Addr} {h:Heap} {b:Addr} {o:Obj} (hb:b ∈ fp) (e:h.get? b=some o):(b,o) ∈ pinsAt fp h:=List.mem_filterMap.mpr ⟨b,hb,by rw [e];rfl⟩
theorem of_pinsAt {fp:List Addr} {h:Heap} {p:Addr × Obj} (hp:p ∈ pinsAt fp h):p.1 ∈ fp/\h.get? p.1=some p.2:=by
 obtain ⟨b,hb,e⟩:=List.mem_filterMap.mp hp
 cases q:h.get? b with
 | none=>rw [q] at e;cases e
 | some o=>
  rw [q] at e
  have e':(b,o)=p:=Option.some.inj e
  subst e'
  exact ⟨hb,q⟩
theorem Inv.pinned {pins:List (Addr × Obj)} {σ:St} {H:Hp} {s:Shared} {fp:List Addr} (I:Inv X pins σ H s) (hf:∀ b ∈ fp,FpOk X pins H b) (ho:∀ b ∈ fp,∃ o,s.heap.get? b=some o/\∀ v,o.data ≠ .cell v):Inv X (pins++pinsAt fp s.heap) σ H s:=
 I.pins_of fun p hp=>(List.mem_append.mp hp).elim (fun z=>I.pin p (List.mem_append_right _ z)) fun z=>by
  obtain ⟨hb,e⟩:=of_pinsAt z
  obtain ⟨f0,f1,f2,_⟩:=hf p.1 hb
  obtain ⟨o,e',d⟩:=ho p.1 hb
  rw [e] at e';cases e'
  exact ⟨e,f0,f1,f2,d⟩
theorem Inv.unpinned {pins pl:List (Addr × Obj)} {σ:St} {H:Hp} {s:Shared} (I:Inv X (pins++pl) σ H s):Inv X pins σ H s:=I.pins_of fun p hp=>I.pin p (List.mem_append_right _ (List.mem_append_left _ hp))
theorem ps_for {iter:Expr} {body:List Stmt} {wi:TI} {g:TG} {tb:TS} {pos:Pos} (hp:PassesOwn (model X.prog X.w) X.A X.env X.xe) (hc:X.calm=true) (hi:PI X tg iter wi) (hg:PG X tg g) (hb:PSs X body tb)
  (hs:∀ x,foldedSetIterable iter X.env x=pure x:=by intro _;rfl):PS X (.For tg iter body [] pos) (tFor wi g tb):=by
 intro pins s σ H D I h
 refine wpAny_For (thn (hi pins s σ H _ I h) fun v s1 h1=>thn h1 fun itv s2 h2=>?_) hs
 obtain ⟨it,fp,tn,J,H2,e,I2,T,st2,f2,W,⟨m0,w0⟩,turn⟩:=h2
 subst e
 -- what stays true of the iterator's objects through the loop
 have stat:∀ {H':Hp},(∀ b ∈ fp,H' b=none)->∀ b ∈ fp,FpOk X pins H' b:=fun hn b hb=>⟨hn b hb,(f2 b hb).2⟩
 refine codeAny_forLoop_any (fun n s'=>∃ i σ' H',Inv X pins σ' H' s'/\tn i s'.heap/\(∀ b ∈ fp,H' b=none)/\W i n σ' H') ?_ m0 ⟨0,σ,H2,I2,st2,fun b hb=>(f2 b hb).1,w0⟩
 rintro n s3 ⟨i,σ3,H3,I3,st3,fr3,w3⟩
 rcases turn i n σ3 H3 w3 with ⟨stop,qn⟩ | ⟨go,N,hN,step⟩
 ·refine wpAny_passesOwn hp (thn (T.done X rfl rfl rfl hc i pins s3 σ3 H3 X.xe I3 (stat fr3) st3 stop) fun r s4 ⟨hr,I4⟩=>?_)
  subst hr
  exact wpAny_execs_nil ⟨σ3,H3,I4,qn⟩
 ·refine wpAny_passesOwn hp (thn (T.item X rfl rfl rfl hc i pins s3 σ3 H3 X.xe I3 (stat fr3) st3 go) fun r s4 ⟨u,hr,h4⟩=>?_)
  subst hr
  refine wpAny_passesOwn hp (thn h4 fun _ s5 ⟨x,H5,I5,r5,y5,st5,fr5⟩=>?_)
  have I5':=I5.pinned (stat fr5) (T.obj _ _ st5)
  refine wpAny_passesOwn hp (thn (hg _ s5 σ3 H5 x u _ I5' r5 (step x H5 y5)) fun _ s6 ⟨σ6,H6,I6,q6⟩=>?_)
  refine wpAny_passesOwn hp (thn (hb _ s6 σ6 H6 _ I6 q6) fun f s7 q7=>?_)
  have again:∀ {σ7:St} {H7:Hp},Inv X (pins++pinsAt fp s5.heap) σ7 H7 s7->N σ7 H7->∃ m,m < n/\∃ i σ' H',Inv X pins σ' H' s7/\tn i s7.heap/\(∀ b ∈ fp,H' b=none)/\W i m σ' H':=fun {σ7 H7} I7 n7=>by
   obtain ⟨m',hm,w7⟩:=hN σ7 H7 n7
   refine ⟨m',hm,i+1,σ7,H7,I7.unpinned,T.keep _ _ _ st5 fun b hb o e=>(I7.pin (b,o) (List.mem_append_right _ (List.mem_append_right _ (mem_pinsAt hb e)))).1,fun b hb=>?_,w7⟩
   obtain ⟨o,e,d⟩:=T.obj _ _ st5 b hb
   exact (I7.pin (b,o) (List.mem_append_right _ (List.mem_append_right _ (mem_pinsAt hb e)))).2.1
  cases f with
  | next=>obtain ⟨σ7,H7,I7,n7⟩:=q7;exact again I7 n7
  | cont=>obtain ⟨σ7,H7,I7,n7⟩:=q7;exact again I7 n7
  | brk=>obtain ⟨σ7,H7,I7,q7⟩:=q7;exact ⟨σ7,H7,I7.unpinned,q7⟩
  | ret v=>obtain ⟨x7,σ7,H7,I7,r7,q7⟩:=q7;exact ⟨x7,σ7,H7,I7.unpinned,r7,q7⟩
end
theorem for_list {K:PySem.W.Frag} {a:Addr} {xs:List V} {g:TG} {tb:TS} {D:Ends} {σ:St} {H:Hp} (Pv:Nat->St->Hp->Prop) (h0:Pv 0 σ H) (hl:∀ i σ H,i<=xs.length->Pv i σ H->SqL K H a xs)
  (hs:∀ i x σ H,xs[i]?=some x->Pv i σ H->g x σ H fun σ2 H2=>tb { D with nx:=Pv (i+1),ct:=Pv (i+1),bk:=D.nx } σ2 H2) (hd:∀ σ H,Pv xs.length σ H->D.nx σ H) :
  ∃ W:Nat->Nat->St->Hp->Prop,(∃ m,W 0 m σ H)/\∀ i m σ H,W i m σ H →
   ((Itl K a).stop i H/\D.nx σ H)\/((Itl K a).go i H/\∃ N:St->Hp->Prop,(∀ σ' H',N σ' H'->∃ m',m' < m/\W (i+1) m' σ' H')/\∀ x H',(Itl K a).yld i H x H'->g x σ H' fun σ2 H2=>tb { D with nx:=N,ct:=N,bk:=D.nx } σ2 H2):=by
 refine ⟨fun i m σ H=>m=xs.length - i/\i<=xs.length/\Pv i σ H,⟨xs.length,by simp,Nat.zero_le _,h0⟩,?_⟩
 rintro i m σ H ⟨rfl,hi,p⟩
 have q:=hl i σ H hi p
 by_cases hlt:i < xs.length
 ·refine .inr ⟨⟨xs,xs[i],q,by simp [hlt]⟩,Pv (i+1),fun σ' H' p'=>⟨xs.length - (i+1),by omega,rfl,hlt,p'⟩,fun x H' y=>?_⟩
  obtain ⟨e,y⟩:=y
  subst e
  exact hs i x σ _ (y xs q) p
 ·have e:i=xs.length:=by omega
  subst e
  exact .inl ⟨⟨xs,q,Nat.le_refl _⟩,hd σ H p⟩
theorem for_range {lo:Int} {n:Nat} {g:TG} {tb:TS} {D:Ends} {σ:St} {H:Hp} (Pv:Nat->St->Hp->Prop) (h0:Pv 0 σ H)
  (hs:∀ i σ H,i < n->Pv i σ H->g (.int (lo+i)) σ H fun σ2 H2=>tb { D with nx:=Pv (i+1),ct:=Pv (i+1),bk:=D.nx } σ2 H2) (hd:∀ σ H,Pv n σ H->D.nx σ H) :
  ∃ W:Nat->Nat->St->Hp->Prop,(∃ m,W 0 m σ H)/\∀ i m σ H,W i m σ H →
   ((Itr lo n).stop i H/\D.nx σ H)\/((Itr lo n).go i H/\∃ N:St->Hp->Prop,(∀ σ' H',N σ' H'->∃ m',m' < m/\W (i+1) m' σ' H')/\∀ x H',(Itr lo n).yld i H x H'->g x σ H' fun σ2 H2=>tb { D with nx:=N,ct:=N,bk:=D.nx } σ2 H2):=by
 refine ⟨fun i m σ H=>m=n - i/\i<=n/\Pv i σ H,⟨n,by simp,Nat.zero_le _,h0⟩,?_⟩
 rintro i m σ H ⟨rfl,hi,p⟩
 by_cases hlt:i < n
 ·refine .inr ⟨hlt,Pv (i+1),fun σ' H' p'=>⟨n - (i+1),by omega,rfl,hlt,p'⟩,fun x H' y=>?_⟩
  obtain ⟨e,y⟩:=y
  subst e y
  exact hs i σ _ hlt p
 ·have e:i=n:=by omega
  subst e
  exact .inl ⟨Nat.le_refl _,hd σ H p⟩
end L2
namespace L2
open PySem PySem.Spec PyProof.Rows
abbrev R2:=V->V->Hp->VK->Prop
def OpR (X:Cx) (f:Value->Value->Sem Value) (r:R2):Prop:=
 ∀ (pins:List (Addr × Obj)) (s:Shared) (σ:St) (H:Hp) (x y:V) (v u:Value) (Q:VK),Inv X pins σ H s->RelV x v->RelV y u->r x y H Q →
  wpAny (model X.prog X.w) X.A (f v u) (EP X pins σ Q) X.xe s
def UnR (X:Cx) (f:Value->Sem Value) (r:V->Hp->VK->Prop):Prop:=
 ∀ (pins:List (Addr × Obj)) (s:Shared) (σ:St) (H:Hp) (x:V) (v:Value) (Q:VK),Inv X pins σ H s->RelV x v->r x H Q →
  wpAny (model X.prog X.w) X.A (f v) (EP X pins σ Q) X.xe s
def CallR (X:Cx) (f:Value) (r:List V->Hp->VK->Prop):Prop:=
 ∀ (pins:List (Addr × Obj)) (s:Shared) (σ:St) (H:Hp) (xs:List V) (us:List Value) (Q:VK),Inv X pins σ H s->Vals xs us->r xs H Q →
  wpAny (model X.prog X.w) X.A (call f us) (EP X pins σ Q) X.xe s
def tOp (r:R2) (ta tb:TE):TE:=fun σ H Q=>ta σ H fun x H1=>tb σ H1 fun y H2=>r x y H2 Q
def tUn (r:V->Hp->VK->Prop) (ta:TE):TE:=fun σ H Q=>ta σ H fun x H1=>r x H1 Q
def rI (C:Int->Int->Prop) (g:Int->Int->V):R2:=fun x y H Q=>∃ i j,x=.int i/\y=.int j/\C i j/\Q (g i j) H
def rI0 (g:Int->Int->V):R2:=fun x y H Q=>∃ i j,x=.int i/\y=.int j/\Q (g i j) H
def rU (g:Int->V):V->Hp->VK->Prop:=fun x H Q=>∃ i,x=.int i/\Q (g i) H
section
variable {X:Cx} {a b c:Expr} {ta tb tc:TE} {pos:Pos}
theorem binT (ha:PE X a ta) (hb:PE X b tb) {pins:List (Addr × Obj)} {s:Shared} {σ:St} {H:Hp} {R:V->V->Hp->Prop} (I:Inv X pins σ H s)
  (h:ta σ H fun x H1=>tb σ H1 fun y H2=>R x y H2) {Q:Value->Shared->Prop} {f:Value->Value->Sem Value}
  (hf:∀ v u s2 x y H2,Inv X pins σ H2 s2->RelV x v->RelV y u->R x y H2->wpAny (model X.prog X.w) X.A (f v u) Q X.xe s2) :
  wpAny (model X.prog X.w) X.A (eval a X.env) (fun v s₁=>wpAny (model X.prog X.w) X.A (eval b X.env) (fun u s₂=>wpAny (model X.prog X.w) X.A (f v u) Q X.xe s₂) X.xe s₁) X.xe s:=by
 refine thn (ha pins s σ H _ I h) fun v s1 ⟨x,H1,I1,r1,q1⟩=>?_
 refine thn (hb pins s1 σ H1 _ I1 q1) fun u s2 ⟨y,H2,I2,r2,q2⟩=>?_
 exact hf v u s2 x y H2 I2 r1 r2 q2
theorem pe_op {op:Operator} {r:R2} (ho:OpR X (binaryOp op) r) (ha:PE X a ta) (hb:PE X b tb):PE X (.BinOp a op b pos) (tOp r ta tb):=by
 intro pins s σ H Q I h
 exact wpAny_BinOp (binT ha hb I h fun v u s2 x y H2 I2 rx ry q=>ho pins s2 σ H2 x y v u Q I2 rx ry q)
theorem pe_un {op:UnaryOp} {r:V->Hp->VK->Prop} (ho:UnR X (unaryOp op) r) (ha:PE X a ta):PE X (.UnaryOp op a pos) (tUn r ta):=by
 intro pins s σ H Q I h
 exact UnaryOp_ (thn (ha pins s σ H _ I h) fun v s1 ⟨x,H1,I1,r1,q1⟩=>ho pins s1 σ H1 x v Q I1 r1 q1)
theorem opI {f:Value->Value->Sem Value} {C:Int->Int->Prop} {g:Int->Int->Int}
  (rule:∀ (i j:Int) (t u:Tok) (s:Shared) (Q:Value->Shared->Prop) (E:Value->Shared->Prop),C i j->Q (.int (g i j) s.toks) { s with toks:=s.toks+1 }->wpAny (model X.prog X.w) X.A (f (.int i t) (.int j u)) Q E s) :
  OpR X f (rI C fun i j=>.int (g i j)):=by
 intro pins s σ H x y v u Q I rx ry h
 obtain ⟨i,j,rfl,rfl,hc,q⟩:=h
 obtain ⟨t,rfl⟩:=rx
 obtain ⟨t',rfl⟩:=ry
 exact rule i j t t' s _ _ hc ⟨.int (g i j),H,I.tok _,⟨_,rfl⟩,q⟩
theorem opI0 {f:Value->Value->Sem Value} {g:Int->Int->Int}
  (rule:∀ (i j:Int) (t u:Tok) (s:Shared) (Q:Value->Shared->Prop) (E:Value->Shared->Prop),Q (.int (g i j) s.toks) { s with toks:=s.toks+1 }->wpAny (model X.prog X.w) X.A (f (.int i t) (.int j u)) Q E s) :
  OpR X f (rI0 fun i j=>.int (g i j)):=by
 intro pins s σ H x y v u Q I rx ry h
 obtain ⟨i,j,rfl,rfl,q⟩:=h
 obtain ⟨t,rfl⟩:=rx
 obtain ⟨t',rfl⟩:=ry
 exact rule i j t t' s _ _ ⟨.int (g i j),H,I.tok _,⟨_,rfl⟩,q⟩
theorem opB0 {f:Value->Value->Sem Value} {g:Int->Int->Bool}
  (rule:∀ (i j:Int) (t u:Tok) (s:Shared) (Q:Value->Shared->Prop) (E:Value->Shared->Prop),Q (.bool (g i j)) s->wpAny (model X.prog X.w) X.A (f (.int i t) (.int j u)) Q E s) :
  OpR X f (rI0 fun i j=>.bl (g i j)):=by
 intro pins s σ H x y v u Q I rx ry h
 obtain ⟨i,j,rfl,rfl,q⟩:=h
 obtain ⟨t,rfl⟩:=rx
 obtain ⟨t',rfl⟩:=ry
 exact rule i j t t' s _ _ ⟨.bl (g i j),H,I,rfl,q⟩
def CDiv (i j:Int):Prop:=0 < j/\j < 1073741824
def CPow (i j:Int):Prop:=0<=j/\j<=1000000/\i.natAbs < 2 ^ 64
def CMul (i j:Int):Prop:=(-(2 ^ 64) < i/\i < 2 ^ 64)\/(-(2 ^ 64) < j/\j < 2 ^ 64)
theorem CMul.ok {i j:Int} (h:CMul i j):IntMulOk i j:=by
 rcases h with ⟨h1,h2⟩ | ⟨h1,h2⟩
 ·exact .of_left (intBits_le_64 h1 h2)
 ·exact .of_right (intBits_le_64 h1 h2)
theorem op_add:OpR X (binaryOp .Add) (rI0 fun i j=>.int (i+j)):=opI0 fun _ _ _ _ _ _ _ q=>add_int q
theorem op_sub:OpR X (binaryOp .Sub) (rI0 fun i j=>.int (i - j)):=opI0 fun _ _ _ _ _ _ _ q=>sub_int q
theorem op_mul:OpR X (binaryOp .Mult) (rI CMul fun i j=>.int (i * j)):=opI fun _ _ _ _ _ _ _ hc q=>mul_int q hc.ok
theorem op_fdiv:OpR X (binaryOp .FloorDiv) (rI CDiv fun i j=>.int (i / j)):=opI fun i j _ _ _ _ _ hc q=>by
 have h1:(0:Int) < j:=hc.1
 have h2:j < 1073741824:=hc.2
 exact floordiv_int (by omega) (by rw [Int.fdiv_eq_ediv_of_nonneg i (by omega)];exact q) (.inl (PyProof.noPylong_small (by omega)))
theorem op_mod:OpR X (binaryOp .Mod) (rI (fun _ j=>0 < j) fun i j=>.int (i % j)):=opI fun i j _ _ _ _ _ hc q=>by
 have h1:(0:Int) < j:=hc
 exact mod_int' (by omega) (by rw [Int.fmod_eq_emod_of_nonneg i (by omega)];exact q)
theorem op_pow:OpR X (binaryOp .Pow) (rI CPow fun i j=>.int (i ^ j.toNat)):=opI fun _ _ _ _ _ _ _ hc q=>pow_int_small hc.1 hc.2.1 hc.2.2 q
theorem unI {f:Value->Sem Value} {g:Int->Int}
  (rule:∀ (i:Int) (t:Tok) (s:Shared) (Q:Value->Shared->Prop) (E:Value->Shared->Prop),Q (.int (g i) s.toks) { s with toks:=s.toks+1 }->wpAny (model X.prog X.w) X.A (f (.int i t)) Q E s) :
  UnR X f (rU fun i=>.int (g i)):=by
 intro pins s σ H x v Q I rx h
 obtain ⟨i,rfl,q⟩:=h
 obtain ⟨t,rfl⟩:=rx
 exact rule i t s _ _ ⟨.int (g i),H,I.tok _,⟨_,rfl⟩,q⟩
theorem un_neg:UnR X (unaryOp .USub) (rU fun i=>.int (-i)):=unI fun _ _ _ _ _ q=>neg_int q
end
def scal:V->V->Bool
 | .non,.non=>true | .non,.int _=>true | .int _,.non=>true | .non,.bl _=>true | .bl _,.non=>true | .non,.str _=>true | .str _,.non=>true
 | .int _,.int _=>true | .bl _,.bl _=>true | .str _,.str _=>true | .byt _,.byt _=>true
 | .int _,.str _=>true | .str _,.int _=>true | .bl _,.str _=>true | .str _,.bl _=>true
 | _,_=>false
def rEq:R2:=fun x y H Q=>scal x y=true/\Q (.bl (decide (x=y))) H
def rNe:R2:=fun x y H Q=>scal x y=true/\Q (.bl (!decide (x=y))) H
theorem dec_int {i j:Int}:decide (V.int i=V.int j)=(i == j):=by
 rw [Bool.eq_iff_iff]
 simp
theorem dec_bl {i j:Bool}:decide (V.bl i=V.bl j)=(i == j):=by
 rw [Bool.eq_iff_iff]
 simp
theorem dec_str {i j:Str}:decide (V.str i=V.str j)=(i == j):=by
 rw [Bool.eq_iff_iff]
 simp
theorem dec_byt {i j:Array UInt8}:decide (V.byt i=V.byt j)=(i.toList == j.toList):=by
 rw [Bool.eq_iff_iff]
 cases i
 cases j
 simp
section
variable {X:Cx} {a b c:Expr} {ta tb tc:TE} {pos:Pos}
theorem fin_bl {pins:List (Addr × Obj)} {σ:St} {H:Hp} {s:Shared} {Q:VK} {k k':Bool} (I:Inv X pins σ H s) (q:Q (.bl k) H) (e:k=k'):EP X pins σ Q (.bool k') s:=by
 subst e
 exact ⟨.bl k,H,I,rfl,q⟩
theorem op_eq:OpR X (compareOp .Eq) rEq:=by
 intro pins s σ H x y v u Q I rx ry h
 obtain ⟨hs,q⟩:=h
 cases x with
 | non=>
  cases rx
  cases y with
  | non=>cases ry;exact PySem.EqNone.eq_none_none (fin_bl I q (by simp))
  | bl j=>cases ry;exact PySem.EqNone.eq_none_bool (fin_bl I q (by simp))
  | int j=>obtain ⟨t',rfl⟩:=ry;exact PySem.EqNone.eq_none_int (fin_bl I q (by simp))
  | str j=>obtain ⟨t',rfl⟩:=ry;exact PySem.EqNone.eq_none_str (fin_bl I q (by simp))
  | _=>exact absurd (show false=true from hs) Bool.false_ne_true
 | bl i=>
  cases rx
  cases y with
  | non=>cases ry;exact PySem.EqNone.eq_bool_none (fin_bl I q (by simp))
  | bl j=>cases ry;exact eq_bool (fin_bl I q dec_bl)
  | str j=>obtain ⟨t',rfl⟩:=ry;exact PySem.EqMixed.eq_bool_str (fin_bl I q (by simp))
  | _=>exact absurd (show false=true from hs) Bool.false_ne_true
 | int i=>
  obtain ⟨t,rfl⟩:=rx
  cases y with
  | non=>cases ry;exact PySem.EqNone.eq_int_none (fin_bl I q (by simp))
  | int j=>obtain ⟨t',rfl⟩:=ry;exact eq_int (fin_bl I q dec_int)
  | str j=>obtain ⟨t',rfl⟩:=ry;exact PySem.EqMixed.eq_int_str (fin_bl I q (by simp))
  | _=>exact absurd (show false=true from hs) Bool.false_ne_true
 | str i=>
  obtain ⟨t,rfl⟩:=rx
  cases y with
  | non=>cases ry;exact PySem.EqNone.eq_str_none (fin_bl I q (by simp))
  | bl j=>cases ry;exact PySem.EqMixed.eq_str_bool (fin_bl I q (by simp))
  | int j=>obtain ⟨t',rfl⟩:=ry;exact PySem.EqMixed.eq_str_int (fin_bl I q (by simp))
  | str j=>obtain ⟨t',rfl⟩:=ry;exact eq_str (fin_bl I q dec_str)
  | _=>exact absurd (show false=true from hs) Bool.false_ne_true
 | byt i=>
  obtain ⟨t,rfl⟩:=rx
  cases y with
  | byt j=>obtain ⟨t',rfl⟩:=ry;exact PySem.W.eq_bytes (fin_bl I q dec_byt)
  | _=>exact absurd (show false=true from hs) Bool.false_ne_true
 | _=>cases y <;> exact absurd (show false=true from hs) Bool.false_ne_true
theorem op_ne:OpR X (compareOp .NotEq) rNe:=by
 intro pins s σ H x y v u Q I rx ry h
 obtain ⟨hs,q⟩:=h
 cases x with
 | non=>
  cases rx
  cases y with
  | non=>cases ry;exact PySem.EqNone.ne_none_none (fin_bl I q (by simp))
  | bl j=>cases ry;exact PySem.EqNone.ne_none_bool (fin_bl I q (by simp))
  | int j=>obtain ⟨t',rfl⟩:=ry;exact PySem.EqNone.ne_none_int (fin_bl I q (by simp))
  | str j=>obtain ⟨t',rfl⟩:=ry;exact PySem.EqNone.ne_none_str (fin_bl I q (by simp))
  | _=>exact absurd (show false=true from hs) Bool.false_ne_true
 | bl i=>
  cases rx
  cases y with
  | non=>cases ry;exact PySem.EqNone.ne_bool_none (fin_bl I q (by simp))
  | bl j=>cases ry;exact ne_bool (fin_bl I q (congrArg not dec_bl))
  | str j=>obtain ⟨t',rfl⟩:=ry;exact PySem.EqMixed.ne_bool_str (fin_bl I q (by simp))
  | _=>exact absurd (show false=true from hs) Bool.false_ne_true
 | int i=>
  obtain ⟨t,rfl⟩:=rx
  cases y with
  | non=>cases ry;exact PySem.EqNone.ne_int_none (fin_bl I q (by simp))
  | int j=>obtain ⟨t',rfl⟩:=ry;exact ne_int (fin_bl I q (congrArg not dec_int))
  | str j=>obtain ⟨t',rfl⟩:=ry;exact PySem.EqMixed.ne_int_str (fin_bl I q (by simp))
  | _=>exact absurd (show false=true from hs) Bool.false_ne_true
 | str i=>
  obtain ⟨t,rfl⟩:=rx
  cases y with
  | non=>cases ry;exact PySem.EqNone.ne_str_none (fin_bl I q (by simp))
  | bl j=>cases ry;exact PySem.EqMixed.ne_str_bool (fin_bl I q (by simp))
  | int j=>obtain ⟨t',rfl⟩:=ry;exact PySem.EqMixed.ne_str_int (fin_bl I q (by simp))
  | str j=>obtain ⟨t',rfl⟩:=ry;exact ne_str (fin_bl I q (congrArg not dec_str))
  | _=>exact absurd (show false=true from hs) Bool.false_ne_true
 | byt i=>
  obtain ⟨t,rfl⟩:=rx
  cases y with
  | byt j=>obtain ⟨t',rfl⟩:=ry;exact PySem.W.ne_bytes (fin_bl I q (congrArg not dec_byt))
  | _=>exact absurd (show false=true from hs) Bool.false_ne_true
 | _=>cases y <;> exact absurd (show false=true from hs) Bool.false_ne_true
theorem op_lt:OpR X (compareOp .Lt) (rI0 fun i j=>.bl (decide (i < j))):=opB0 fun _ _ _ _ _ _ _ q=>lt_int q
theorem op_gt:OpR X (compareOp .Gt) (rI0 fun i j=>.bl (decide (j < i))):=opB0 fun _ _ _ _ _ _ _ q=>gt_int q
theorem op_ge:OpR X (compareOp .GtE) (rI0 fun i j=>.bl (decide (j<=i))):=opB0 fun _ _ _ _ _ _ _ q=>ge_int q
theorem op_isN:OpR X (compareOp .Is) (fun x y H Q=>y=.non/\Q (.bl (decide (x=.non))) H):=by
 intro pins s σ H x y v u Q I rx ry h
 obtain ⟨rfl,q⟩:=h
 cases ry
 refine is_none_gen (fin_bl I q ?_)
 cases x <;> first
  | (cases rx;rfl)
  | (obtain ⟨t,rfl⟩:=rx;rfl)
theorem nomark (b:Expr) {op:CmpOp} (h:op ≠ .In:=by decide) (h2:op ≠ .NotIn:=by decide):behindInMarks op b=false:=by
 have e1:(op == CmpOp.In)=false:=by cases op <;> first | rfl | exact absurd rfl h
 have e2:(op == CmpOp.NotIn)=false:=by cases op <;> first | rfl | exact absurd rfl h2
 cases b <;> simp [behindInMarks,e1,e2]
theorem pe_cmpR {op:CmpOp} {r:R2} (ho:OpR X (compareOp op) r) (ha:PE X a ta) (hb:PE X b tb) (hm:behindInMarks op b=false):PE X (.Compare a [op] [b] pos) (tOp r ta tb):=by
 intro pins s σ H Q I h
 exact wpAny_Compare1 (binT ha hb I h fun v u s2 x y H2 I2 rx ry q=>ho pins s2 σ H2 x y v u Q I2 rx ry q) hm
def tTest (t:TE):TT:=fun σ H Q=>t σ H fun x H'=>∃ k,x=.bl k/\Q k H'
theorem pt_cmpR {op:CmpOp} {r:R2} (ho:OpR X (compareOp op) r) (ha:PE X a ta) (hb:PE X b tb) (hm:behindInMarks op b=false):PT X (.Compare a [op] [b] pos) (tTest (tOp r ta tb)):=by
 intro pins s σ H Q I h
 refine wpAny_isTrue_Compare1 (thn (ha pins s σ H _ I h) fun v s1 ⟨x,H1,I1,r1,q1⟩=>thn (hb pins s1 σ H1 _ I1 q1) fun u s2 ⟨y,H2,I2,r2,q2⟩=>
  thn (ho pins s2 σ H2 x y v u _ I2 r1 r2 q2) fun c s3 ⟨z,H3,I3,r3,k,e,q3⟩=>?_) hm
 subst e
 cases r3
 exact wpAny_truthy_bool ⟨H3,I3,q3⟩
def tChain (r r':R2) (ta tb tc:TE):TE:=fun σ H Q=>ta σ H fun x H1=>tb σ H1 fun y H2=>r x y H2 fun z H3=>∃ k,z=.bl k ∧
 (if k=true then tc σ H3 fun w' H4=>r' y w' H4 Q else Q (.bl false) H3)
theorem pt_chain {op op':CmpOp} {r r':R2} (ho:OpR X (compareOp op) r) (ho':OpR X (compareOp op') r') (ha:PE X a ta) (hb:PE X b tb) (hc:PE X c tc)
  (hm:lastMarks [op,op'] [b,c]=false:=by with_unfolding_all rfl):PT X (.Compare a [op,op'] [b,c] pos) (tTest (tChain r r' ta tb tc)):=by
 intro pins s σ H Q I h
 refine isTrue_chain (thn (ha pins s σ H _ I h) fun v s1 ⟨x,H1,I1,r1,q1⟩=>test_link (thn (hb pins s1 σ H1 _ I1 q1) fun u s2 ⟨y,H2,I2,r2,q2⟩=>
  thn (ho pins s2 σ H2 x y v u _ I2 r1 r2 q2) fun d s3 ⟨z,H3,I3,r3,k,e,q3⟩=>?_)) hm
 subst e
 cases r3
 refine wpAny_truthy_bool ?_
 cases k with
 | false=>
  obtain ⟨k',e',q'⟩:=q3
  cases e'
  exact ite_ff ⟨H3,I3,q'⟩
 | true=>
  refine ite_tt (test_last (thn (hc pins s3 σ H3 _ I3 q3) fun w' s4 ⟨z',H4,I4,r4,q4⟩=>thn (ho' pins s4 σ H4 y z' u w' _ I4 r2 r4 q4) fun d' s5 ⟨z2,H5,I5,r5,k2,e2,q5⟩=>?_))
  subst e2
  cases r5
  exact wpAny_truthy_bool ⟨H5,I5,q5⟩
theorem line63:(sizeLine:Nat) < 2 ^ 63:=by rw [sizeLine_eq];decide
theorem op_add_str:OpR X (binaryOp .Add) (fun x y H Q=>∃ i j,x=.str i/\y=.str j/\i.length+j.length<=sizeLine/\Q (.str (i++j)) H):=by
 intro pins s σ H x y v u Q I rx ry h
 obtain ⟨i,j,rfl,rfl,hz,q⟩:=h
 obtain ⟨t,rfl⟩:=rx
 obtain ⟨t',rfl⟩:=ry
 exact add_str (fun t' tk=>⟨.str (i++j),H,I.tok _,⟨_,rfl⟩,q⟩) hz
theorem vals1 {x:V} {us:List Value} (r:Vals [x] us):∃ u,us=[u]/\RelV x u:=by
 cases r with
 | cons r1 r2=>cases r2;exact ⟨_,rfl,r1⟩
theorem vals2 {x y:V} {us:List Value} (r:Vals [x,y] us):∃ u w',us=[u,w']/\RelV x u/\RelV y w':=by
 cases r with
 | cons r1 r2=>
  cases r2 with
  | cons r3 r4=>cases r4;exact ⟨_,_,rfl,r1,r3⟩
theorem call_max2 (hc:X.calm=true):CallR X (.builtin "max") (fun xs H Q=>∃ i j,xs=[.int i,.int j]/\Q (.int (if j > i then j else i)) H):=by
 intro pins s σ H xs us Q I r h
 obtain ⟨i,j,rfl,q⟩:=h
 obtain ⟨u,w',rfl,⟨t,rfl⟩,⟨t',rfl⟩⟩:=vals2 r
 refine max_two_ints (I.ok.hd hc) fun h' tk k=>⟨_,H,I.kept k,?_,q⟩
 by_cases hj:j > i
 ·rw [if_pos hj,if_pos hj];exact ⟨_,rfl⟩
 ·rw [if_neg hj,if_neg hj];exact ⟨_,rfl⟩
theorem call_min2 (hc:X.calm=true):CallR X (.builtin "min") (fun xs H Q=>∃ i j,xs=[.int i,.int j]/\Q (.int (if j < i then j else i)) H):=by
 intro pins s σ H xs us Q I r h
 obtain ⟨i,j,rfl,q⟩:=h
 obtain ⟨u,w',rfl,⟨t,rfl⟩,⟨t',rfl⟩⟩:=vals2 r
 refine min_two_ints (I.ok.hd hc) fun h' tk k=>⟨_,H,I.kept k,?_,q⟩
 by_cases hj:j < i
 ·rw [if_pos hj,if_pos hj];exact ⟨_,rfl⟩
 ·rw [if_neg hj,if_neg hj];exact ⟨_,rfl⟩
theorem call_int1:CallR X (.type "int") (fun xs H Q=>(∃ i,xs=[.int i]/\Q (.int i) H)\/∃ k,xs=[.bl k]/\Q (.int (if k then 1 else 0)) H):=by
 intro pins s σ H xs us Q I r h
 rcases h with ⟨i,rfl,q⟩ | ⟨k,rfl,q⟩
 ·obtain ⟨u,rfl,t,rfl⟩:=vals1 r
  exact call_int_int ⟨.int i,H,I,⟨_,rfl⟩,q⟩
 ·obtain ⟨u,rfl,r1⟩:=vals1 r
  cases r1
  exact call_int_bool ⟨.int (if k then 1 else 0),H,I.tok _,⟨_,rfl⟩,q⟩
end
end L2
namespace L2
open PySem PySem.Spec PyProof.Rows
structure ObjM (h:Heap) (x dx C:Addr) (mA:Str->Option Value):Prop where
 obj:h.get? x=some (PySem.W.instObj C dx)
 ns:h.Ns1 dx mA
 ne:dx ≠ x
theorem lookIn_ns {h:Heap} {dx:Addr} {mA:Str->Option Value} (n:h.Ns1 dx mA):∃ od,h.get? dx=some od/\∀ name,PySem.W.lookIn name od=some (mA name):=by
 obtain ⟨o,es,ep,ho,hd,hk,_,hm⟩:=n
 refine ⟨o,ho,fun name=>?_⟩
 have e:=hm name
 unfold nsFind findBy at e
 rw [<-Array.find?_toList] at e
 unfold PySem.W.lookIn
 rw [hd]
 dsimp only
 split
 ·rename_i y q
  rw [q] at e
  exact congrArg some e
 ·rename_i q
  rw [q] at e
  have a:es.toList.any (·.refKey)=false:=by
   rw [List.any_eq_false]
   intro y hy
   obtain ⟨z,t,hkey⟩:=hk y (Array.mem_toList_iff.mp hy)
   simp [DictEntry.refKey,hkey]
  have a':¬ es.toList.any (·.refKey)=true:=by rw [a];exact Bool.false_ne_true
  rw [if_neg a']
  exact congrArg some e
theorem ObjM.look {h:Heap} {x dx C:Addr} {mA:Str->Option Value} (I:ObjM h x dx C mA):∃ od,PySem.W.InstAt h x (PySem.W.instObj C dx) C (some od)/\∀ name,PySem.W.lookIn name od=some (mA name):=
 let ⟨od,ho,hl⟩:=lookIn_ns I.ns
 ⟨od,⟨I.obj,rfl,rfl,ho⟩,hl⟩
section
variable {prog:Program} {w:World} {A:Around} {E:Value->Shared->Prop} {s:Shared} {K:PySem.W.Frag} {x dx C f:Addr} {mA:Str->Option Value} {name:Str} {v:Value}
end
theorem RelO.some_of {v:V} {o:Option Value} (r:RelO (some v) o):∃ u,o=some u/\RelV v u:=by
 cases o with
 | none=>exact (show False from r).elim
 | some u=>exact ⟨u,rfl,r⟩
section
variable {P:Program} {w:World} {H H':Hp} {h h':Heap} {a C dx:Addr} {fs fs':List (Str × V)}
theorem ins_get (hok:HOk P w H h) (e:H a=some (.ins C dx fs)):∃ mA,ObjM h a dx C mA/\(∀ f,RelO (fs.lookup f) (mA f))/\PySem.Within mA (fs.map (·.1))/\fs.length<=1000/\H dx=some (.own a):=by
 obtain ⟨d,z,ne,ob,mA,n,r,q⟩:=(show ObjOk P w H h a (.ins C dx fs) from hok a _ e)
 exact ⟨mA,⟨ob,n,ne⟩,r,q,z,d⟩
end
structure Cls (K:PySem.W.Frag) (C:Addr):Prop where
 pg:PySem.W.plainGet K C Str.empty=true
 hd:PySem.W.hasDictIn K C=true
 po:PySem.W.plainOver K C=true
 sa:PySem.W.findIn K (.ref C) "__setattr__" = some (some (.builtin "object.__setattr__"))
theorem Cls.get {K:PySem.W.Frag} {C:Addr} (c:Cls K C) (f:Str):PySem.W.plainGet K C f=true:=c.pg
section
variable {X:Cx} {pins:List (Addr × Obj)} {σ:St} {H:Hp} {s:Shared} {a C dx:Addr} {fs:List (Str × V)} {f:Str} {v:V} {A:Around} {E:Value->Shared->Prop}
end
section
variable {X:Cx} {o e value:Expr} {f:Str} {pos pos' tpos:Pos} {ta tv:TE}
end
section
variable {X:Cx} {pins:List (Addr × Obj)} {σ:St} {H:Hp} {s:Shared} {A:Around} {E:Value->Shared->Prop} {Q:Value->Shared->Prop} {c:Value} {b:Bool}
inductive TyOf (K:PySem.W.Frag) (H:Hp):V->Value->Prop where
 | non:TyOf K H .non (.type "NoneType")
 | bl (x:Bool):TyOf K H (.bl x) (.type "bool")
 | int (i:Int):TyOf K H (.int i) (.type "int")
 | str (x:Str):TyOf K H (.str x) (.type "str")
 | flt (x:UInt64):TyOf K H (.flt x) (.type "float")
 | lst {a:Addr} {xs:List V} (e:H a=some (.lst xs)):TyOf K H (.ref a) (.type "list")
 | frz {a:Addr} {o:Obj} {xs:List V} (e:H a=some (.frz o (.lst xs))):TyOf K H (.ref a) (.type "list")
 | tup {a:Addr} {xs:List V} (e:H a=some (.tup xs)):TyOf K H (.ref a) (.type "tuple")
 | dK {a:Addr} {kvs:List (Key × V)} (e:H a=some (.dK kvs)):TyOf K H (.ref a) (.type "dict")
 | dT {a:Addr} {kvs:List (List Key × V)} (e:H a=some (.dT kvs)):TyOf K H (.ref a) (.type "dict")
 | ins {a C dx:Addr} {fs:List (Str × V)} (e:H a=some (.ins C dx fs)) (cl:Cls K C) (ha:PySem.W.findIn K (.ref C) "__class__" = some (some (.builtin "object.__class__")))
   (hn:PySem.W.specialIn K (.builtin "object.__class__") "__get__" = some (some (.builtin "getset_descriptor.__get__"))) (htk:PySem.W.takesIn K (.builtin "object.__class__")=some true)
   (hm:PySem.W.mroIn K C (.type "object")=some true):TyOf K H (.ref a) (.ref C)
theorem isinst_ok {x:V} {u t:Value} (I:Inv X pins σ H s) (rx:RelV x u) (ty:TyOf X.K H x t) (e:PySem.W.kitOne X.K t c=some b) (h:∀ tk,Q (.bool b) { s with toks:=tk }) :
  wpAny (model X.prog X.w) A (call (.builtin "isinstance") [u,c]) Q E s:=by
 cases ty with
 | non=>cases (show u=Value.none from rx);exact PySem.W.kia_one PySem.W.kitx_none I.kIn True.intro e (fun z=>nomatch z) h
 | bl y=>cases (show u=Value.bool y from rx);exact PySem.W.kia_one PySem.W.kitx_bool I.kIn True.intro e (fun z=>nomatch z) h
 | int i=>obtain ⟨t,q⟩:=(show ∃ t,u=Value.int i t from rx);cases q;exact PySem.W.kia_one PySem.W.kitx_int I.kIn True.intro e (fun z=>nomatch z) h
 | str y=>obtain ⟨t,q⟩:=(show ∃ t,u=Value.str y t from rx);cases q;exact PySem.W.kia_one PySem.W.kitx_str I.kIn True.intro e (fun z=>nomatch z) h
 | flt y=>obtain ⟨t,q⟩:=(show ∃ t,u=Value.float y t from rx);cases q;exact PySem.W.kia_one PySem.W.kitx_float I.kIn True.intro e (fun z=>nomatch z) h
 | @lst a xs ea=>
  cases (show u=Value.ref a from rx)
  obtain ⟨_,_,n,_,h1⟩:=(show ObjOk X.prog X.w H s.heap a (.lst xs) from I.hok a _ ea)
  exact PySem.W.kia_one PySem.W.kitx_list I.kIn ⟨_,h1,rfl⟩ e (fun z=>nomatch z) h
 | @frz a ob xs ea=>
  cases (show u=Value.ref a from rx)
  obtain ⟨_,_,_,n,_,h1⟩:=(show ObjOk X.prog X.w H s.heap a (.frz ob (.lst xs)) from I.hok a _ ea)
  exact PySem.W.kia_one PySem.W.kitx_list I.kIn ⟨_,h1,rfl⟩ e (fun z=>nomatch z) h
 | @tup a xs ea=>
  cases (show u=Value.ref a from rx)
  obtain ⟨_,_,_,p⟩:=(show ObjOk X.prog X.w H s.heap a (.tup xs) from I.hok a _ ea)
  obtain ⟨o,h1,h2,_⟩:=p
  exact PySem.W.kia_one PySem.W.kitx_tuple I.kIn ⟨o,h1,h2⟩ e (fun z=>nomatch z) h
 | @dK a kvs ea=>
  cases (show u=Value.ref a from rx)
  obtain ⟨_,_,vs,_,p⟩:=(show ObjOk X.prog X.w H s.heap a (.dK kvs) from I.hok a _ ea)
  obtain ⟨o,es,ep,h1,h2,_⟩:=p
  exact PySem.W.kia_one PySem.W.kitx_dict I.kIn ⟨o,h1,h2.1⟩ e (fun z=>nomatch z) h
 | @dT a kvs ea=>exact False.elim (show ObjOk X.prog X.w H s.heap a (.dT kvs) from I.hok a _ ea)
 | @ins a C dx fs ea cl ha hn htk hm=>
  cases (show u=Value.ref a from rx)
  obtain ⟨mA,O,_⟩:=ins_get I.hok ea
  obtain ⟨od,J,_⟩:=O.look
  exact PySem.W.kia_one (PySem.W.kitx_own (cl.get _) cl.hd ha hn htk hm) I.kIn J e (fun z=>nomatch z) h
end
end L2
namespace L2
open PySem PySem.Spec PyProof.Rows
structure Room (k:Nat) (A:Around):Prop where
 hd:A.handled=none
 dp:A.depth+3 * k+5 < recursionLimit
 un:A.units+16 * k+200 < cLine
theorem Room.mono {j k:Nat} {A:Around} (r:Room k A) (h:j<=k):Room j A:=⟨r.hd,by have:=r.dp;omega,by have:=r.un;omega⟩
theorem Room.deeper {k:Nat} {A:Around} (r:Room (k+1) A) (env:Env):Room k (A.deeper env):=
 ⟨r.hd,by have:=r.dp;show A.depth+1+3 * k+5 < _;omega,by have:=r.un;show A.units+3+16 * k+200 < _;omega⟩
theorem Room.depth {k:Nat} {A:Around} (r:Room k A):A.depth < recursionLimit:=by have:=r.dp;omega
theorem Room.units {k:Nat} {A:Around} (r:Room k A):A.units+64 < cLine:=by have:=r.un;omega
def tNil:TA:=fun _ H Q=>Q [] H
def tCons (ta:TE) (tr:TA):TA:=fun σ H Q=>ta σ H fun x H1=>tr σ H1 fun xs H2=>Q (x :: xs) H2
section
variable {X:Cx} {e:Expr} {es:List Expr} {te:TE} {t:TA} {pos:Pos}
theorem pa_nil:PA X [] tNil:=fun _ _ _ _ H Q I h=>Calls.spliced_nil ⟨[],H,I,.nil,h⟩
theorem pa_cons (ha:PE X e te) (hr:PA X es t) (hs:starEach (e :: es) X.env=(false,eval e X.env) :: starEach es X.env:=by rfl):PA X (e :: es) (tCons te t):=by
 intro pos pins s σ H Q I h
 rw [hs]
 show wpAny _ _ (spliced ((false,eval e X.env) :: backTo pos (starEach es X.env))) _ _ s
 refine Calls.spliced_cons (thn (ha pins s σ H _ I h) fun u s1 ⟨x,H1,I1,r1,q1⟩=>?_)
 exact thn (hr pos pins s1 σ H1 _ I1 q1) fun us s2 ⟨xs,H2,I2,r2,q2⟩=>⟨x :: xs,H2,I2,.cons r1 r2,q2⟩
def tTup (t:TA):TE:=fun σ H Q=>t σ H fun xs H1=>xs.length<=sizeLine/\∀ p,H1 p=none->Q (.ref p) (upd H1 p (.tup xs))
def tLst (t:TA):TE:=fun σ H Q=>t σ H fun xs H1=>xs.length<=sizeLine/\∀ p,H1 p=none->Q (.ref p) (upd H1 p (.lst xs))
theorem pe_tup {x1} (h:PA X es t):PE X (.Tuple es x1 pos) (tTup t):=by
 intro pins s σ H Q I hq
 refine wpAny_Tuple_spliced (thn (h pos pins s σ H _ I hq) fun us s1 ⟨xs,H1,I1,r,z,q⟩=>⟨by rw [<-r.length];exact z,?_⟩)
 have hf:H1 s1.heap.objs.size=none:=I1.hok.fresh (Nat.le_refl _)
 refine ⟨.ref s1.heap.objs.size,upd H1 s1.heap.objs.size (.tup xs),I1.laid (t':=s1.toks) (fun b u e=>Heap.get?_push_of_some _ e) (Nat.le_refl _) ?_,rfl,q _ hf⟩
 exact ⟨z,us,r,⟨_,Heap.get?_push_size _ rfl,rfl,_,rfl⟩⟩
theorem pe_lst (h:PA X es t):PE X (.List es pos) (tLst t):=by
 intro pins s σ H Q I hq
 refine wpAny_List_spliced (thn (h pos pins s σ H _ I hq) fun us s1 ⟨xs,H1,I1,r,z,q⟩=>⟨by rw [<-r.length];exact z,?_⟩)
 have hf:H1 s1.heap.objs.size=none:=I1.hok.fresh (Nat.le_refl _)
 refine ⟨.ref s1.heap.objs.size,upd H1 s1.heap.objs.size (.lst xs),I1.laid (t':=s1.toks) (fun b u e=>Heap.get?_push_of_some _ e) (Nat.le_refl _) ?_,rfl,q _ hf⟩
 exact ⟨z,us,0,r,Heap.get?_push_size _ rfl⟩
end
abbrev Sp:=List V->Hp->VK->XK->Prop
abbrev CXT:=List Env->Hp->Shared->XK->Value->Shared->Prop
structure Env0 (P:Program) (w:World) (K:PySem.W.Frag) (mg:Str->Option Value) (base:Heap) (A:Around) (outer:List Env) (s:Shared) (H:Hp):Prop where
 frames:A.frames=some outer
 mod:Mod K mg base
 bs:∀ b o,base.get? b=some o->s.heap.get? b=some o/\H b=none
 bsz:base.objs.size<=s.heap.objs.size
 funs:s.heap.FunFrames base outer
 frf:∀ b ∈ frs outer,H b=none
 hok:HOk P w H s.heap
 bare:AllBare s.gens
def CE (outer:List Env) (P:Program) (w:World) (H:Hp) (s:Shared) (Q:VK) (u:Value) (s':Shared):Prop:=
 ∃ v H',s'.os=s.os/\AllBare s'.gens/\Un (frs outer) [] H H' s.heap s'.heap/\HOk P w H' s'.heap/\RelV v u/\Q v H'
def CR (CX:CXT) (outer:List Env) (P:Program) (w:World) (H:Hp) (s:Shared) (Q:VK) (E:XK) (r:Result) (s':Shared):Prop:=
 match r with
 | .ok (.ret u)=>CE outer P w H s Q u s'
 | .ok _=>False
 | .error e=>CX outer H s E e s'
structure FnOk (P:Program) (w:World) (K:PySem.W.Frag) (mg:Str->Option Value) (base:Heap) (CX:CXT) (k:Nat) (f:Addr) (fd:FuncData) (ps:List Str) (sp:Sp):Prop where
 len:∀ vs H Q E,sp vs H Q E->vs.length=ps.length
 run:∀ (A:Around) (outer:List Env) (s:Shared) (H:Hp) (args:Args) (us:List Value) (vs:List V) (Q:VK) (E:XK),Room k A->Env0 P w K mg base A outer s H->BindsTo s fd args (ps.zip us)->Vals vs us->sp vs H Q E →
  codeAny (model P w) A (.call (.ref f) args) (CR CX outer P w H s Q E) s
theorem FnOk.mono {P:Program} {w:World} {K:PySem.W.Frag} {mg:Str->Option Value} {base:Heap} {CX:CXT} {j k:Nat} {f:Addr} {fd:FuncData} {ps:List Str} {sp:Sp} (F:FnOk P w K mg base CX j f fd ps sp) (h:j<=k) :
  FnOk P w K mg base CX k f fd ps sp:=⟨F.len,fun A outer s H args us vs Q E hr=>F.run A outer s H args us vs Q E (hr.mono h)⟩
section
variable {X:Cx} {pins:List (Addr × Obj)} {σ:St} {H:Hp} {s s':Shared}
theorem Inv.env0 (I:Inv X pins σ H s):Env0 X.prog X.w X.K X.mg X.base X.A X.stack s H:=
 ⟨I.ok.frames,I.ok.mod,I.bs,Nat.le_trans I.ok.bsz I.sz,I.stack,I.stkFree,I.hok,I.bare⟩
theorem Inv.after {Q:VK} {u:Value} (I:Inv X pins σ H s) (h:CE X.stack X.prog X.w H s Q u s'):EP X pins σ Q u s':=by
 obtain ⟨v,H',os,bare,un,hok,r,q⟩:=h
 obtain ⟨hh,g,d,t,os'⟩:=s'
 obtain rfl:os'=s.os:=os
 exact ⟨v,H',I.call (h':=hh) (g':=g) (d':=d) (t':=t) (ch:=[]) un hok bare (fun b z=>absurd z (by simp)),r,q⟩
end
def tCall (sp:Sp) (dvs:List V) (E:XK) (t:TA):TE:=fun σ H Q=>t σ H fun vs H1=>sp (vs++dvs) H1 Q E
def Binds (K:PySem.W.Frag) (fd:FuncData) (ps:List Str) (ds:List Value):Prop:=
 ∀ (s:Shared) (us:List Value),K.In s.heap->(us++ds).length=ps.length->BindsTo s fd ⟨us,[]⟩ (ps.zip (us++ds))
theorem Binds.all {K:PySem.W.Frag} {fd:FuncData} {ps:List Str} (h:∀ us:List Value,us.length=ps.length->bindArgs fd ⟨us,[]⟩=pure (ps.zip us)):Binds K fd ps []:=fun s us _ hl=>by
 rw [List.append_nil] at hl ⊢
 exact .of_eq (h us hl)
def Passes (CX:CXT) (X:Cx) (E:XK):Prop:=∀ (pins:List (Addr × Obj)) (σ:St) (H:Hp) (s:Shared) (e:Value) (s':Shared),Inv X pins σ H s->CX X.stack H s E e s'->X.xe e s'
section
variable {X:Cx} {CX:CXT} {k:Nat} {f C:Addr} {fd:FuncData} {ps:List Str} {sp:Sp} {dvs:List V} {ds:List Value} {E:XK} {x m:Str} {p pos apos:Pos} {e o:Expr} {es:List Expr} {ta:TE} {t:TA}
theorem run_fn {pins:List (Addr × Obj)} {σ:St} {H:Hp} {s:Shared} {Q:VK} {us:List Value} {vs:List V} (F:FnOk X.prog X.w X.K X.mg X.base CX k f fd ps sp) (hr:Room k X.A) (hb:Binds X.K fd ps ds) (hd:Vals dvs ds) (hx:Passes CX X E)
  (I:Inv X pins σ H s) (r:Vals vs us) (h:sp (vs++dvs) H Q E):wpAny (model X.prog X.w) X.A (call (.ref f) us) (EP X pins σ Q) X.xe s:=by
 have r2:Vals (vs++dvs) (us++ds):=r.append hd
 have hl:(us++ds).length=ps.length:=by rw [<-r2.length];exact F.len _ _ _ _ h
 refine wpAny_call (codeAny_mono (F.run X.A X.stack s H ⟨us,[]⟩ (us++ds) (vs++dvs) Q E hr I.env0 (hb s us I.kIn hl) r2 h) fun r s' hq=>?_)
 cases r with
 | error e=>exact hx pins σ H s e s' I hq
 | ok fl=>
  cases fl with
  | ret u=>exact I.after hq
  | next=>exact False.elim hq
  | brk=>exact False.elim hq
  | cont=>exact False.elim hq
theorem pe_call (F:FnOk X.prog X.w X.K X.mg X.base CX k f fd ps sp) (hr:Room k X.A) (hg:Gl X x) (hm:X.mg x=some (.ref f)) (hk:PySem.W.keepIn X.K (.ref f)=true) (hb:Binds X.K fd ps ds) (hd:Vals dvs ds) (hx:Passes CX X E)
  (ha:PA X (e :: es) t) (hdb:(x == ("__debug__" : Str))=false:=by decide) (he:starEach (e :: es) X.env=(false,eval e X.env) :: starEach es X.env:=by rfl) (hpl:(backTo pos (starEach es X.env)).any (·.1)=false:=by rfl) :
  PE X (.Call (.Name x p) (e :: es) [] pos) (tCall sp dvs E t):=by
 intro pins s σ H Q I h
 refine wpAny_Call_Name_kw (ld_glob I hg hm ?_ hdb)
 refine PySem.W.callWith_K (h₀:=X.base) I.ok.mod.kin hk (thn (ha pos pins s σ H _ I h) fun us s1 ⟨vs,H1,I1,r,q⟩=>⟨I1.kIn,?_⟩) he hpl
 exact run_fn F hr hb hd hx I1 r q
end
section
variable {X:Cx} {CX:CXT} {k:Nat} {f C:Addr} {fd:FuncData} {ps ks:List Str} {sp:Sp} {E:XK} {x m:Str} {p pos apos kpos:Pos} {e o:Expr} {es:List Expr} {kws:List Keyword} {te ta:TE} {t tk:TA} {nm:Option Str}
variable {g:List Value->List Value->List Value} {gV:List V->List V->List V}
end
structure FnScope (N P:List Str) (sc:Scope):Prop where
 kind:sc.kind=.function
 co:sc.isCoroutine=false
 gen:sc.isGenerator=false
 nd:N.Nodup
 pre:N.take P.length=P
 par:∀ x ∈ P,sc.names.lookup x=some .local\/sc.names.lookup x=some .cell
 nofree:∀ y ∈ sc.names,y.2 ≠ .free
theorem bindL_out {kindOf:Str->Option NameKind} {x:Str}:∀ {binds:List (Str × Value)} {m:Str->Option Value},(∀ v,(x,v) ∉ binds)->bindL kindOf binds m x=m x
 | [],_,_=>rfl
 | (n,v) :: r,m,h=>by
  unfold bindL
  rw [bindL_out fun w hw=>h w (List.mem_cons_of_mem _ hw)]
  split
  ·have:x ≠ n:=by rintro rfl;exact h v List.mem_cons_self
   simp [this]
  ·rfl
theorem bindC_out {kindOf:Str->Option NameKind} {x:Str}:∀ {binds:List (Str × Value)} {m:Str->Option Value},(∀ v,(x,v) ∉ binds)->bindC kindOf binds m x=m x
 | [],_,_=>rfl
 | (n,v) :: r,m,h=>by
  unfold bindC
  rw [bindC_out fun w hw=>h w (List.mem_cons_of_mem _ hw)]
  split
  ·rfl
  ·have:x ≠ n:=by rintro rfl;exact h v List.mem_cons_self
   simp [this]
theorem bindL_get {kindOf:Str->Option NameKind} {x:Str} {v:Value}:∀ {P:List Str} {vs:List Value} {i:Nat} {m:Str->Option Value},P.Nodup->P[i]?=some x->vs[i]?=some v->kindOf x=some .local →
  bindL kindOf (P.zip vs) m x=some v
 | [],_,_,_,_,h,_,_=>by simp at h
 | _ :: _,[],_,_,_,_,h,_=>by simp at h
 | p :: P,w :: vs,0,m,nd,h1,h2,hk=>by
  simp at h1 h2;subst h1;subst h2
  show bindL kindOf ((p,w) :: P.zip vs) m p=_
  unfold bindL
  rw [bindL_out fun v hv=>(List.nodup_cons.mp nd).1 (List.of_mem_zip hv).1,if_pos hk]
  simp
 | p :: P,w :: vs,i+1,m,nd,h1,h2,hk=>by
  show bindL kindOf ((p,w) :: P.zip vs) m x=_
  unfold bindL
  exact bindL_get (i:=i) (List.nodup_cons.mp nd).2 (by simpa using h1) (by simpa using h2) hk
theorem bindC_get {kindOf:Str->Option NameKind} {x:Str} {v:Value}:∀ {P:List Str} {vs:List Value} {i:Nat} {m:Str->Option Value},P.Nodup->P[i]?=some x->vs[i]?=some v->kindOf x ≠ some .local →
  bindC kindOf (P.zip vs) m x=some v
 | [],_,_,_,_,h,_,_=>by simp at h
 | _ :: _,[],_,_,_,_,h,_=>by simp at h
 | p :: P,w :: vs,0,m,nd,h1,h2,hk=>by
  simp at h1 h2;subst h1;subst h2
  show bindC kindOf ((p,w) :: P.zip vs) m p=_
  unfold bindC
  rw [bindC_out fun v hv=>(List.nodup_cons.mp nd).1 (List.of_mem_zip hv).1,if_neg hk]
  simp
 | p :: P,w :: vs,i+1,m,nd,h1,h2,hk=>by
  show bindC kindOf ((p,w) :: P.zip vs) m x=_
  unfold bindC
  exact bindC_get (i:=i) (List.nodup_cons.mp nd).2 (by simpa using h1) (by simpa using h2) hk
def start (N:List Str) (vs:List V):St:=vs.map some++List.replicate (N.length - vs.length) none
def cxOf (CX:CXT) (P:Program) (w:World) (K:PySem.W.Frag) (mg:Str->Option Value) (base:Heap) (N:List Str) (qual:Str) (scope:Scope) (f:Addr) (cd:Value) (A:Around) (outer:List Env) (s:Shared) (H:Hp) (E:XK):Cx where
 prog:=P
 w:=w
 K:=K
 mg:=mg
 base:=base
 A:=A.deeper (envOfC qual scope s.heap.objs.size f cd)
 N:=N
 s₀:=s
 H₀:=H
 env:=envOfC qual scope s.heap.objs.size f cd
 outer:=outer
 stack:=envOfC qual scope s.heap.objs.size f cd :: outer
 ex:=[]
 calm:=true
 fn:=fun _=>true
 pn:=[]
 xe:=fun e s'=>wpAny (model P w) (A.deeper (envOfC qual scope s.heap.objs.size f cd)) (leaving (envOfC qual scope s.heap.objs.size f cd) e) (fun _ s''=>CX outer H s E e s'') (fun e' s''=>CX outer H s E e' s'') s'
theorem cell_has {sc:Scope} {n:Nat} {x:Str} (h:sc.names.lookup x=some .cell):∃ c,(cellsFrom n sc.names []).lookup x=some c:=by
 have q:=PySem.W.cellsFrom_some sc.names n [] (.inl h)
 exact Option.isSome_iff_exists.mp q
theorem inv_start {CX:CXT} {P:Program} {w:World} {K:PySem.W.Frag} {mg:Str->Option Value} {base:Heap} {N ps:List Str} {qual:Str} {scope:Scope} {f:Addr} {cd:Value} {A:Around} {outer:List Env} {s s1:Shared} {H:Hp} {E:XK} {us:List Value} {vs:List V}
  (S:FnScope N ps scope) (hd:A.handled=none) (e0:Env0 P w K mg base A outer s H) (hl:vs.length=ps.length) (r:Vals vs us)
  (x:InCallC s s.heap.objs.size (bindL (envOfC qual scope s.heap.objs.size f cd).kindOf (ps.zip us) fun _=>none) (cellsFrom (s.heap.objs.size+1) scope.names []) (bindC (envOfC qual scope s.heap.objs.size f cd).kindOf (ps.zip us) fun _=>none) s1) :
  Inv (cxOf CX P w K mg base N qual scope f cd A outer s H E) [] (start N vs) H s1:=by
 have hpl:ps.length<=N.length:=by have:=congrArg List.length S.pre;rw [List.length_take] at this;omega
 obtain ⟨h1,tk,rfl,hk⟩:=x.done
 have noA:∀ b:Addr,b ∉ (cxOf CX P w K mg base N qual scope f cd A outer s H E).ex:=fun b z=>absurd (show b ∈ ([]:List Addr) from z) (by simp)
 refine ⟨⟨e0.mod,S.kind,rfl,rfl,Nat.le_refl _,fun y z c h1 h2=>?_,fun y hy=>?_,fun y c _ h=>?_,fun _=>hd,Around.frames_deeper e0.frames,.inr ⟨rfl,rfl⟩,fun b z=>absurd z (noA b),e0.bs,e0.bsz,fun b _ _=>noA b,fun b z=>absurd z (noA b),e0.funs,e0.frf⟩,
  rfl,e0.bare,Un.kept hk,⟨_,x.toInCall.ns,fun i y v h1 h2 h3=>?_⟩,fun y c h=>⟨_,x.cell y c h⟩,e0.hok.fresh (Nat.le_refl _),fun y c h=>?_,fun p hp=>absurd (show p ∈ ([]:List (Addr × Obj)) from hp) (by simp),e0.hok.kept hk,?_⟩
 ·exact name_of_addr x.apart (PySem.mem_of_lookup h1) (PySem.mem_of_lookup h2)
 ·have hy:scope.names.lookup y=some .cell\/scope.names.lookup y=some .free:=hy
  rcases hy with hy | hy
  ·exact cell_has hy
  ·exact absurd rfl (S.nofree _ (PySem.mem_of_lookup hy))
 ·exact Nat.le_of_lt (x.above y c (PySem.mem_of_lookup h))
 ·have hi:i < vs.length:=by
   unfold start at h2
   by_cases hi:i < vs.length
   ·exact hi
   ·rw [List.getElem?_append_right (by simpa using hi)] at h2
    rw [List.getElem?_replicate] at h2
    split at h2 <;> cases h2
  have ha:vs[i]?=some v:=by
   unfold start at h2
   rw [List.getElem?_append_left (by simpa using hi),List.getElem?_map] at h2
   cases e:vs[i]? with
   | none=>rw [e] at h2;cases h2
   | some a=>rw [e] at h2;cases h2;rfl
  obtain ⟨u,hu,rv⟩:=r.get ha
  have hp:ps[i]?=some y:=by
   rw [<-S.pre,List.getElem?_take_of_lt (by omega)];exact h1
  have ndP:ps.Nodup:=by rw [<-S.pre];exact S.nd.sublist (List.take_sublist _ _)
  refine ⟨u,rv,?_⟩
  rcases S.par y (List.mem_of_getElem? hp) with k | k
  ·exact .inl ⟨k,bindL_get ndP hp hu k⟩
  ·obtain ⟨c,e⟩:=cell_has (n:=s.heap.objs.size+1) k
   refine .inr ⟨.inl k,c,e,?_⟩
   have q:=x.cell y c e
   rw [bindC_get ndP hp hu (by show scope.names.lookup y ≠ _;rw [k];decide)] at q
   exact q
 ·exact e0.hok.fresh (Nat.le_of_lt (x.above y c (PySem.mem_of_lookup h)))
 ·unfold start
  show _=N.length
  rw [List.length_append,List.length_map,List.length_replicate]
  omega
theorem fn_of {CX:CXT} {P:Program} {w:World} {K:PySem.W.Frag} {mg:Str->Option Value} {base:Heap} {k:Nat} {f:Addr} {name qual:Str} {params:Arguments} {body:List Stmt} {scope:Scope} {dV kV doc pm cdv ct oc:Value} {an od:Option Addr}
  {osl:Array (Option Value)} {N ps:List Str} {sp:Sp} (lk:K.lookup f=some ⟨oc,od,.func (PySem.W.fnOf name qual params body scope dV kV doc pm an cdv ct),osl⟩) (hcd:PySem.W.codeIn K cdv qual=true) (S:FnScope N ps scope)
  (len:∀ vs H Q E,sp vs H Q E->vs.length=ps.length)
  (hbody:∀ (A:Around) (outer:List Env) (s:Shared) (H:Hp) (vs:List V) (Q:VK) (E:XK),Room k (A.deeper (envOfC qual scope s.heap.objs.size f cdv))->sp vs H Q E →
   ∃ t,PSs (cxOf CX P w K mg base N qual scope f cdv A outer s H E) body t/\t { nx:=fun _ H'=>Q .non H',rt:=Q } (start N vs) H) :
  FnOk P w K mg base CX (k+1) f (PySem.W.fnOf name qual params body scope dV kV doc pm an cdv ct) ps sp:=by
 refine ⟨len,fun A outer s H args us vs Q E hr e0 hb r hsp=>?_⟩
 have hl:=len _ _ _ _ hsp
 have KX:K.In s.heap:=e0.mod.kin.keeps fun b o e=>(e0.bs b o e).1
 have lim:s.heap.NoLimit:=e0.mod.nolimit.keeps fun b o e=>(e0.bs b o e).1
 have hkind:∀ y ∈ ps.zip us,scope.names.lookup y.1=some .local\/(scope.names.lookup y.1=some .cell/\((cellsFrom (s.heap.objs.size+1) scope.names []).lookup y.1).isSome=true):=fun ⟨n,v⟩ hy=>by
  rcases S.par n (List.of_mem_zip hy).1 with q | q
  ·exact .inl q
  ·exact .inr ⟨q,PySem.W.cellsFrom_some _ _ _ (.inl q)⟩
 refine codeAny_call_function hr.depth (KX _ _ lk) rfl S.co S.gen rfl (PySem.W.codeRec_of KX hcd) (hb _ _ _ _ ?_)
 refine wpAny_newFunctionEnv_cells S.kind hkind fun env he s1 x=>?_
 subst he
 refine ⟨lim.keeps x.toInCall.keep,codeAny_func ?_⟩
 obtain ⟨t,ht,hq⟩:=hbody A outer s H vs Q E (hr.deeper _) hsp
 have I:Inv (cxOf CX P w K mg base N qual scope f cdv A outer s H E) [] (start N vs) H s1:=inv_start S hr.hd e0 hl r x
 refine wpAny_mono (ht [] s1 (start N vs) H _ I hq) (fun fl s' hs=>?_) fun e s' hs=>hs
 have fin:∀ {σ':St} {H':Hp} {v:V} {u:Value},Inv (cxOf CX P w K mg base N qual scope f cdv A outer s H E) [] σ' H' s'->RelV v u->Q v H'->CE outer P w H s Q u s':=
  fun {σ' H' v u} J rv q=>⟨v,H',J.os,J.bare,J.base,J.hok,rv,q⟩
 cases fl with
 | ret u=>
  obtain ⟨v,σ',H',J,rv,q⟩:=hs
  exact fin J rv q
 | next=>
  obtain ⟨σ',H',J,q⟩:=hs
  exact fin (v:=V.non) (u:=Value.none) J rfl q
 | brk=>
  obtain ⟨_,_,_,q⟩:=hs
  exact False.elim q
 | cont=>
  obtain ⟨_,_,_,q⟩:=hs
  exact False.elim q
end L2
namespace L2
open PySem PySem.Spec PyProof.Rows
section
variable {X:Cx} {x:Str} {p pos:Pos} {e:Expr} {es:List Expr} {t:TA} {id T:String} {r:List V->Hp->VK->Prop}
def tCB (r:List V->Hp->VK->Prop) (t:TA):TE:=fun σ H Q=>t σ H fun vs H1=>r vs H1 Q
theorem pe_callB (hc:CallR X (.builtin id) r) (hg:Gl X x) (hm:X.mg x=none) (hv:bootBuiltins x=some (.builtin id)) (ha:PA X (e :: es) t) (hn:x ≠ "__name__" := by decide) (hdb:(x == ("__debug__" : Str))=false:=by decide)
  (he:starEach (e :: es) X.env=(false,eval e X.env) :: starEach es X.env:=by rfl) (hpl:(backTo pos (starEach es X.env)).any (·.1)=false:=by rfl):PE X (.Call (.Name x p) (e :: es) [] pos) (tCB r t):=by
 intro pins s σ H Q I h
 refine wpAny_Call_Name_kw (ld_blt I hg hm hv ?_ hn hdb)
 exact PyProof.Rows.callWith_builtin1 (thn (ha pos pins s σ H _ I h) fun us s1 ⟨vs,H1,I1,r1,q1⟩=>hc pins s1 σ H1 vs us Q I1 r1 q1) he hpl
theorem pe_callTy (hc:CallR X (.type T) r) (hg:Gl X x) (hm:X.mg x=none) (hv:bootBuiltins x=some (.type T)) (ha:PA X (e :: es) t) (hn:x ≠ "__name__" := by decide) (hdb:(x == ("__debug__" : Str))=false:=by decide)
  (he:starEach (e :: es) X.env=(false,eval e X.env) :: starEach es X.env:=by rfl) (hpl:(backTo pos (starEach es X.env)).any (·.1)=false:=by rfl):PE X (.Call (.Name x p) (e :: es) [] pos) (tCB r t):=by
 intro pins s σ H Q I h
 refine wpAny_Call_Name_kw (ld_blt I hg hm hv ?_ hn hdb)
 exact PyProof.Rows.callWith_type1 (thn (ha pos pins s σ H _ I h) fun us s1 ⟨vs,H1,I1,r1,q1⟩=>hc pins s1 σ H1 vs us Q I1 r1 q1) he hpl
end
end L2
namespace HT
open PySem PyProof.Rows
section
open PySem.SeqAt
open PySem.AutoSeq1 (wpAny_loadPart')
open PySem.MeetsSeq PySem.MeetsSeq2 PySem.MeetsSeq3
end
section
variable {prog:Program} {w:World} {A:Around} {E:Value->Shared->Prop} {s:Shared}
theorem cat_tup {t b:Addr} {vs ws:List Value} {Q:Value->Shared->Prop} (ht:IsTup s.heap t vs.toArray) (hb:IsTup s.heap b ws.toArray) (hv:vs ≠ [])
  (h1:ws=[]->Q (.ref t) s) (h2:ws ≠ []->Q (.ref s.heap.objs.size) { s with heap:=s.heap.push { cls:=.type "tuple",data:=.seq (vs++ws).toArray } })
  (hsz:vs.length+ws.length<=sizeLine):wpAny (model prog w) A (binaryOp .Add (.ref t) (.ref b)) Q E s:=by
 obtain ⟨⟨cls,dd,data,sl⟩,ho,hc,n,hd⟩:=id ht
 obtain ⟨⟨cls2,dd2,data2,sl2⟩,ho2,hc2,n2,hd2⟩:=id hb
 simp only at hc hd hc2 hd2
 subst hc hd hc2 hd2
 have e:vs.toArray++ws.toArray=(vs++ws).toArray:=by simp
 by_cases hw:ws=[]
 ·exact concat_meets ⟨_,ho,rfl⟩ ⟨_,ho2,rfl⟩ noFill_tuple_add seq_tuple_add PySem.F.slot_tuple_add PySem.F.entry_tuple_add (PySem.F.args_tuple_add_2 _ _)
   (tuple_addW1 t b vs.toArray ws.toArray n n2 dd dd2 sl sl2 (by simpa using hv) (by simp [hw])) ⟨ho,ho2,h1 hw⟩
 ·refine concat_meets ⟨_,ho,rfl⟩ ⟨_,ho2,rfl⟩ noFill_tuple_add seq_tuple_add PySem.F.slot_tuple_add PySem.F.entry_tuple_add (PySem.F.args_tuple_add_2 _ _)
   (tuple_addW2 t b vs.toArray ws.toArray n n2 dd dd2 sl sl2 (by simpa using hv) (by simpa using hw) (by rw [List.size_toArray,List.size_toArray];exact hsz)) ⟨ho,ho2,?_⟩
  rw [e]
  exact h2 hw
def sIx (n d:Nat):Option Int->Nat
 | none=>d
 | some v=>if v < 0 then (v+(n:Int)).toNat else min v.toNat n
theorem sIx_none (n d:Nat):sIx n d none=d:=rfl
theorem sIx_nat (n d k:Nat):sIx n d (some (k:Int))=min k n:=by
 show (if (k:Int) < 0 then ((k:Int)+(n:Int)).toNat else min (k:Int).toNat n)=min k n
 rw [if_neg (by omega),Int.toNat_natCast]
theorem sIx_le (n d:Nat) (hd:d<=n) (o:Option Int):sIx n d o<=n:=by
 cases o with
 | none=>exact hd
 | some v=>
  show (if v < 0 then (v+(n:Int)).toNat else min v.toNat n)<=n
  by_cases hv:v < 0
  ·rw [if_pos hv];omega
  ·rw [if_neg hv];exact Nat.min_le_right _ _
theorem clip_eq (v:Int) (n d:Nat):(if v < 0 then max (v+(n:Int)) 0 else min v (n:Int))=((sIx n d (some v):Nat):Int):=by
 show (if v < 0 then max (v+(n:Int)) 0 else min v (n:Int))=(((if v < 0 then (v+(n:Int)).toNat else min v.toNat n):Nat):Int)
 by_cases hv:v < 0
 ·simp only [if_pos hv];omega
 ·simp only [if_neg hv];omega
theorem adjust_gen (lo hi:Option Int) (n:Nat):Builtin.Slice.sliceAdjust lo hi 1 (n:Int)=(((sIx n 0 lo:Nat):Int),((sIx n n hi:Nat):Int)):=by
 have h1:¬ ((1:Int) < 0):=by omega
 unfold Builtin.Slice.sliceAdjust
 simp only [h1,if_false]
 refine Prod.ext ?_ ?_
 ·cases lo with
  | none=>rfl
  | some v=>exact clip_eq v n 0
 ·cases hi with
  | none=>rfl
  | some v=>exact clip_eq v n n
theorem places_gen (i j:Nat):Builtin.Slice.slicePlaces (i:Int) (j:Int) 1=j - i:=by
 unfold Builtin.Slice.slicePlaces
 have h1:(1:Int) > 0:=by omega
 simp only [h1,if_true,Int.ediv_one]
 split <;> omega
theorem slicePart_ {v:Value} {o:Option Int} {Q:Option Int->Shared->Prop} (p:IsPart v o) (h:Q o s):wpAny (model prog w) A (Builtin.Slice.slicePartIndex v) Q E s:=by
 cases p with
 | none=>exact slicePart_none h
 | int i t=>exact slicePart_int h
theorem sliceApplied_gen {sl:Addr} {vl vu:Value} {lo hi:Option Int} {n:Nat} {Q:Int × Int × Nat->Shared->Prop} (hs:s.heap.IsSliceOf sl vl vu .none) (pl:IsPart vl lo) (pu:IsPart vu hi)
  (h:Q (((sIx n 0 lo:Nat):Int),1,sIx n n hi - sIx n 0 lo) s):wpAny (model prog w) A (Builtin.Slice.sliceApplied (.ref sl) (pure (n:Int))) Q E s:=by
 obtain ⟨os,hos,hcs,hds⟩:=id hs
 unfold Builtin.Slice.sliceApplied Builtin.Slice.sliceFields
 refine wpAny_bind (wpAny_bind (wpAny_field hos hds (x:=vl) rfl (wpAny_bind (wpAny_field hos hds (x:=vu) rfl (wpAny_bind (wpAny_field hos hds (x:=.none) rfl (wpAny_pure ?_)))))))
 refine wpAny_bind (slicePart_none ?_)
 show wpAny _ _ (if ((1:Int) == 0)=true then _ else _) _ _ s
 rw [if_neg (by decide)]
 refine wpAny_bind (slicePart_ pl (wpAny_bind (slicePart_ pu (wpAny_bind (wpAny_pure ?_)))))
 show wpAny _ _ (match Builtin.Slice.sliceAdjust lo hi 1 (n:Int) with | (lo,hi)=>pure (lo,(1:Int),Builtin.Slice.slicePlaces lo hi 1)) _ _ s
 rw [adjust_gen lo hi n]
 show wpAny _ _ (pure (((sIx n 0 lo:Nat):Int),(1:Int),Builtin.Slice.slicePlaces ((sIx n 0 lo:Nat):Int) ((sIx n n hi:Nat):Int) 1)) _ _ s
 rw [places_gen]
 exact wpAny_pure h
theorem pick_gen (xs:Array Value) (i k:Nat):((List.range k).filterMap fun (m:Nat)=>xs[((i:Int)+(m:Int) * 1).toNat]?).toArray=((xs.toList.drop i).take k).toArray:=by
 have e:(fun (m:Nat)=>xs[((i:Int)+(m:Int) * 1).toNat]?)=fun m=>xs[i+m]?:=by
  funext m
  have:((i:Int)+(m:Int) * 1).toNat=i+m:=by omega
  rw [this]
 rw [e]
 have:=pick_run xs i k
 rw [List.filterMap_map] at this
 have e2:((fun x=>xs[x]?) ∘ fun x=>i+x)=fun m=>xs[i+m]?:=rfl
 rw [e2] at this
 rw [this]
theorem getItem_tuple_cut {t sl:Addr} {items:Array Value} {vl vu:Value} {lo hi:Option Int} {Q:Value->Shared->Prop} (ht:IsTup s.heap t items) (hs:s.heap.IsSliceOf sl vl vu .none) (pl:IsPart vl lo) (pu:IsPart vu hi)
  (hw:¬ (sIx items.size 0 lo=0/\sIx items.size items.size hi=items.size))
  (h:Q (.ref s.heap.objs.size) { s with heap:=s.heap.push { cls:=.type "tuple",data:=.seq ((items.toList.drop (sIx items.size 0 lo)).take (sIx items.size items.size hi - sIx items.size 0 lo)).toArray } })
  (hsz:items.size<=sizeLine):wpAny (model prog w) A (getItem (.ref t) (.ref sl)) Q E s:=by
 have htake:sizeOk (.seq ((items.toList.drop (sIx items.size 0 lo)).take (sIx items.size items.size hi - sIx items.size 0 lo)).toArray):=by
  show ((items.toList.drop (sIx items.size 0 lo)).take (sIx items.size items.size hi - sIx items.size 0 lo)).toArray.size<=sizeLine
  rw [List.size_toArray,List.length_take,List.length_drop,Array.length_toList]
  omega
 have hj:sIx items.size items.size hi<=items.size:=sIx_le _ _ (Nat.le_refl _) hi
 obtain ⟨os,hos,hcs,hds⟩:=id hs
 have hTs:s.TypeIs (.ref sl) "slice" := ⟨os,hos,hcs⟩
 unfold getItem
 try with_reducible refine wpAny_holding ?_
 first | refine wpAny_bind (wpAny_pure ?_) | skip
 refine wpAny_bind (wpAny_sequenceKey ht.typeIs (by decide) ?_)
 refine wpAny_bind (wpAny_callSpecial?_slot (name:=Str.ofString "__getitem__") ht.typeIs PyProof.Rows.slot_tuple_getitem
  (wpAny_call_entry PyProof.Rows.slot_tuple_getitem ht.typeIs entry_tuple_getitem ?_ (args_tuple_getitem _ _)))
 show wpAny _ _ (Builtin.Tuple.tupleItemsOf (.ref t) >>= _) _ _ s
 refine wpAny_bind (tupleItemsOf_ ht ?_)
 refine wpAny_bind (wpAny_typeOf hTs ?_)
 rw [if_pos (by decide)]
 refine wpAny_bind (sliceApplied_gen hs pl pu ?_)
 have hno:¬ ((((sIx items.size 0 lo:Nat):Int) == 0 && (1:Int) == 1 && (sIx items.size items.size hi - sIx items.size 0 lo) == items.size)=true):=by
  intro q
  rw [Bool.and_eq_true,Bool.and_eq_true] at q
  have q1:((sIx items.size 0 lo:Nat):Int)=0:=eq_of_beq q.1.1
  have q2:sIx items.size items.size hi - sIx items.size 0 lo=items.size:=eq_of_beq q.2
  exact hw ⟨by omega,by omega⟩
 show wpAny _ _ (if (((sIx items.size 0 lo:Nat):Int) == 0 && (1:Int) == 1 && (sIx items.size items.size hi - sIx items.size 0 lo) == items.size)=true then _ else _) _ _ s
 rw [if_neg hno,pick_gen]
 first
  | exact wpAny_bind (m:=Builtin.Tuple.tupleExact _) (wpAny_newObj_type (wpAny_pure ⟨_,rfl,wpAny_pure h⟩) htake)
  | exact wpAny_bind (m:=Builtin.Tuple.tupleExact _) (wpAny_newObj_type (wpAny_bind (wpAny_pure (wpAny_pure ⟨_,rfl,wpAny_pure h⟩))) htake)
  | exact wpAny_bind (wpAny_bind (m:=Builtin.Tuple.tupleExact _) (wpAny_newObj_type (wpAny_pure (wpAny_pure ⟨_,rfl,wpAny_pure h⟩)) htake))
  | exact wpAny_bind (wpAny_bind (m:=Builtin.Tuple.tupleExact _) (wpAny_newObj_type (wpAny_pure ⟨_,rfl,wpAny_pure h⟩) htake))
end
end HT
namespace L2
open PySem PySem.Spec PyProof.Rows
abbrev TO:=St->Hp->(Option Int->Hp->Prop)->Prop
def PO (X:Cx) (e:Option Expr) (t:TO):Prop:=
 ∀ (pins:List (Addr × Obj)) (s:Shared) (σ:St) (H:Hp) (Q:Option Int->Hp->Prop),Inv X pins σ H s->t σ H Q →
  wpAny (model X.prog X.w) X.A (evalPart e X.env) (fun u s'=>∃ o H',Inv X pins σ H' s'/\IsPart u o/\Q o H') X.xe s
def tNoPart:TO:=fun _ H Q=>Q none H
def tPart (t:TE):TO:=fun σ H Q=>t σ H fun x H1=>∃ i,x=.int i/\Q (some i) H1
section
variable {X:Cx} {e:Expr} {te:TE} {lo hi:Option Expr} {tl th:TO} {pos p2:Pos}
theorem po_none:PO X none tNoPart:=by
 intro pins s σ H Q I h
 rw [evalPart_none]
 exact wpAny_pure ⟨none,H,I,.none,h⟩
theorem po_some (h:PE X e te):PO X (some e) (tPart te):=by
 intro pins s σ H Q I hw
 rw [evalPart_some]
 refine thn (h pins s σ H _ I hw) fun u s1 ⟨x,H1,I1,r1,q1⟩=>?_
 obtain ⟨i,rfl,q⟩:=q1
 obtain ⟨t,rfl⟩:=r1
 exact ⟨some i,H1,I1,.int i t,q⟩
def SlR (X:Cx) (r:V->Option Int->Option Int->Hp->VK->Prop):Prop:=
 ∀ (pins:List (Addr × Obj)) (s:Shared) (σ:St) (H:Hp) (x:V) (v vl vu:Value) (lo hi:Option Int) (sl:Addr) (Q:VK),Inv X pins σ H s->RelV x v->s.heap.IsSliceOf sl vl vu .none->IsPart vl lo->IsPart vu hi->r x lo hi H Q →
  ∃ T id,typeLookup (.type T) "__getitem__" = pure (some (.builtin id))/\s.TypeIs v T/\wpAny (model X.prog X.w) X.A (getItem v (.ref sl)) (EP X pins σ Q) X.xe s
def tSl (r:V->Option Int->Option Int->Hp->VK->Prop) (te:TE) (tl th:TO):TE:=fun σ H Q=>te σ H fun x H1=>tl σ H1 fun l H2=>th σ H2 fun u H3=>r x l u H3 Q
theorem pe_slice {r:V->Option Int->Option Int->Hp->VK->Prop} (hr:SlR X r) (he:PE X e te) (hl:PO X lo tl) (hu:PO X hi th):PE X (.Subscript e (.Slice lo hi none p2) pos) (tSl r te tl th):=by
 intro pins s σ H Q I h
 refine Subscript_ (thn (he pins s σ H _ I h) fun v s1 ⟨x,H1,I1,r1,q1⟩=>?_)
 refine wpAny_Slice (thn (hl pins s1 σ H1 _ I1 q1) fun vl s2 ⟨l,H2,I2,pl,q2⟩=>thn (hu pins s2 σ H2 _ I2 q2) fun vu s3 ⟨u,H3,I3,pu,q3⟩=>?_)
 rw [evalPart_none]
 refine wpAny_pure ?_
 have I4:Inv X pins σ H3 { s3 with heap:=s3.heap.push { cls:=.type "slice",data:=.fields #[vl,vu,.none] } }:=I3.kept (t':=s3.toks) fun b ob q=>Heap.get?_push_of_some _ q
 obtain ⟨T,id,hT,ht,hg⟩:=hr pins { s3 with heap:=s3.heap.push { cls:=.type "slice",data:=.fields #[vl,vu,.none] } } σ H3 x v vl vu l u s3.heap.objs.size Q I4 r1 (Heap.IsSliceOf.new ..) pl pu q3
 show wpAny (model X.prog X.w) X.A (subscriptTail e (.Slice lo hi none p2) v (.ref s3.heap.objs.size)) (EP X pins σ Q) X.xe { s3 with heap:=s3.heap.push { cls:=.type "slice",data:=.fields #[vl,vu,.none] } }
 exact tail_any (ops:=[.ref s3.heap.objs.size,v]) ht hT hg (by with_unfolding_all rfl)
def cutV (xs:List V) (lo hi:Option Int):List V:=(xs.drop (HT.sIx xs.length 0 lo)).take (HT.sIx xs.length xs.length hi - HT.sIx xs.length 0 lo)
theorem cutV_length (xs:List V) (lo hi:Option Int):(cutV xs lo hi).length<=xs.length:=by
 unfold cutV
 rw [List.length_take,List.length_drop]
 omega
def rSlT (K:PySem.W.Frag):V->Option Int->Option Int->Hp->VK->Prop:=fun x lo hi H Q=>∃ a xs,x=.ref a/\SqT K H a xs ∧
 ¬ (HT.sIx xs.length 0 lo=0/\HT.sIx xs.length xs.length hi=xs.length)/\∀ p,H p=none->Q (.ref p) (upd H p (.tup (cutV xs lo hi)))
theorem sl_tup:SlR X (rSlT X.K):=by
 intro pins s σ H x v vl vu lo hi sl Q I rx hs pl pu h
 obtain ⟨a,xs,rfl,hx,hw,q⟩:=h
 cases rx
 obtain ⟨its,r,ht,hz⟩:=I.tuple hx
 have hlen:its.toArray.size=xs.length:=by rw [List.size_toArray];exact r.length.symm
 refine ⟨"tuple",_,PyProof.Rows.slot_tuple_getitem.lookup,ht.typeIs,?_⟩
 refine HT.getItem_tuple_cut ht hs pl pu (by rw [hlen];exact hw) ?_ (by rw [hlen];exact hz)
 rw [hlen]
 refine ⟨.ref s.heap.objs.size,_,I.laid (t':=s.toks) (o:=.tup (cutV xs lo hi)) (fun b ob q=>Heap.get?_push_of_some _ q) (Nat.le_refl _) ?_,rfl,q _ (I.hok.fresh (Nat.le_refl _))⟩
 exact ⟨Nat.le_trans (cutV_length xs lo hi) hz,_,(r.drop (HT.sIx xs.length 0 lo)).take (HT.sIx xs.length xs.length hi - HT.sIx xs.length 0 lo),IsTup.new _ _⟩
def rCatT (K:PySem.W.Frag):R2:=fun x y H Q=>∃ a b xs ys,x=.ref a/\y=.ref b/\SqT K H a xs/\SqT K H b ys/\xs ≠ []/\xs.length+ys.length<=sizeLine ∧
 (ys=[]->Q (.ref a) H)/\(ys ≠ []->∀ p,H p=none->Q (.ref p) (upd H p (.tup (xs++ys))))
theorem Vals.nil_iff {xs:List V} {us:List Value} (r:Vals xs us):us=[] ↔ xs=[]:=by
 cases r with
 | nil=>simp
 | cons _ _=>simp
theorem op_catT:OpR X (binaryOp .Add) (rCatT X.K):=by
 intro pins s σ H x y v u Q I rx ry h
 obtain ⟨a,b,xs,ys,rfl,rfl,ha,hb,hx,hz,q1,q2⟩:=h
 cases rx
 cases ry
 obtain ⟨its,r1,p1,_⟩:=I.tuple ha
 obtain ⟨its2,r2,p2,_⟩:=I.tuple hb
 refine HT.cat_tup p1 p2 (fun z=>hx (r1.nil_iff.mp z)) (fun z=>⟨.ref a,H,I,rfl,q1 (r2.nil_iff.mp z)⟩) (fun z=>?_) (by rw [<-r1.length,<-r2.length];exact hz)
 refine ⟨.ref s.heap.objs.size,_,I.laid (t':=s.toks) (o:=.tup (xs++ys)) (fun b ob q=>Heap.get?_push_of_some _ q) (Nat.le_refl _) ?_,rfl,q2 (fun w=>z (r2.nil_iff.mpr w)) _ (I.hok.fresh (Nat.le_refl _))⟩
 exact ⟨by rw [List.length_append];exact hz,_,r1.append r2,IsTup.new _ _⟩
end
end L2
namespace L2
open PySem PySem.Spec PyProof.Rows
def ixN (n:Nat) (i:Int):Option Nat:=if 0<=i then (if i < n then some i.toNat else none) else if -(n:Int)<=i then some (i+n).toNat else none
def atI {α:Type} (xs:List α) (i:Int):Option α:=(ixN xs.length i).bind fun j=>xs[j]?
theorem ixN_seq {n:Nat} {i:Int} {j:Nat} (h:ixN n i=some j):seqIndex? i n=some j/\j < n/\-(n:Int)<=i/\i < n:=by
 unfold ixN at h
 by_cases h0:0<=i
 ·rw [if_pos h0] at h
  by_cases h1:i < n
  ·rw [if_pos h1] at h
   have e:i.toNat=j:=Option.some.inj h
   exact ⟨by rw [seqIndex_of h0 h1,e],by omega,by omega,h1⟩
  ·rw [if_neg h1] at h;cases h
 ·rw [if_neg h0] at h
  by_cases h1:-(n:Int)<=i
  ·rw [if_pos h1] at h
   have e:(i+n).toNat=j:=Option.some.inj h
   exact ⟨by rw [seqIndex_neg (by omega) h1,e],by omega,h1,by omega⟩
  ·rw [if_neg h1] at h;cases h
theorem atI_get {α:Type} {xs:List α} {i:Int} {v:α} (h:atI xs i=some v):∃ j,seqIndex? i xs.length=some j/\xs[j]?=some v/\j < xs.length/\-(xs.length:Int)<=i/\i < xs.length:=by
 unfold atI at h
 cases e:ixN xs.length i with
 | none=>rw [e] at h;cases h
 | some j=>
  rw [e] at h
  obtain ⟨h1,h2,h3,h4⟩:=ixN_seq e
  exact ⟨j,h1,h,h2,h3,h4⟩
theorem atI_nat {α:Type} {xs:List α} {j:Nat} {v:α} (h:xs[j]?=some v):atI xs (j:Int)=some v:=by
 have hj:j < xs.length:=(List.getElem?_eq_some_iff.mp h).1
 have e:ixN xs.length (j:Int)=some j:=by
  unfold ixN
  rw [if_pos (by omega),if_pos (by omega)];simp
 unfold atI;rw [e];exact h
theorem atI_last {α:Type} (xs:List α) (v:α):atI (xs++[v]) (-1)=some v:=by
 have hl:(xs++[v]).length=xs.length+1:=by simp
 have e:ixN (xs++[v]).length (-1)=some xs.length:=by
  unfold ixN
  rw [hl,if_neg (by decide),if_pos (by omega)]
  congr 1
  omega
 unfold atI
 rw [e]
 show (xs++[v])[xs.length]?=some v
 simp
def PlainIx (b:Expr):Prop:=∀ o i,subscripted b false o i=operate [o,i] (getItem o i)
def IxR (X:Cx) (r:R2):Prop:=
 ∀ (value slice:Expr) (pins:List (Addr × Obj)) (s:Shared) (σ:St) (H:Hp) (x y:V) (v u:Value) (Q:VK),Inv X pins σ H s->RelV x v->RelV y u->r x y H Q →
  subscripted slice false v u=operate [v,u] (getItem v u)->wpAny (model X.prog X.w) X.A (subscriptTail value slice v u) (EP X pins σ Q) X.xe s
def MtR (X:Cx) (id:String) (r:V->List V->Hp->VK->Prop):Prop:=
 ∀ (pins:List (Addr × Obj)) (s:Shared) (σ:St) (H:Hp) (x:V) (xs:List V) (v:Value) (us:List Value) (Q:VK),Inv X pins σ H s->RelV x v->Vals xs us->r x xs H Q →
  wpAny (model X.prog X.w) X.A (call (.builtin id) (v :: us)) (EP X pins σ Q) X.xe s
section
variable {X:Cx} {a b:Expr} {ta tb:TE} {pos:Pos}
theorem pe_ix {r:R2} (hr:IxR X r) (ha:PE X a ta) (hb:PE X b tb) (hs:PlainIx b):PE X (.Subscript a b pos) (tOp r ta tb):=by
 intro pins s σ H Q I h
 exact Subscript_ (binT ha hb I h fun v u s2 x y H2 I2 rx ry q=>hr a b pins s2 σ H2 x y v u Q I2 rx ry q (hs _ _))
def rIxL (K:PySem.W.Frag):R2:=fun x y H Q=>∃ p xs i v,x=.ref p/\y=.int i/\SqL K H p xs/\atI xs i=some v/\Q v H
def rIxT (K:PySem.W.Frag):R2:=fun x y H Q=>∃ p xs i v,x=.ref p/\y=.int i/\SqT K H p xs/\atI xs i=some v/\Q v H
def rIxS:R2:=fun x y H Q=>∃ z i c,x=.str z/\y=.int i/\z.length<=sizeLine/\atI z.cps.toList i=some c/\Q (.str ⟨#[c]⟩) H
theorem ix_list:IxR X (rIxL X.K):=by
 intro value slice pins s σ H x y v u Q I rx ry h hs
 obtain ⟨p,xs,i,z,rfl,rfl,hq,he,q⟩:=h
 cases rx
 obtain ⟨t,rfl⟩:=ry
 obtain ⟨its,r,pl,hz⟩:=I.list hq
 obtain ⟨j,h1,h2,h3,h4,h5⟩:=atI_get he
 obtain ⟨w,ew,rw'⟩:=r.get h2
 have hl:=r.length
 have hn:=line63
 have fin:EP X pins σ Q w s:=⟨z,H,I,rw',q⟩
 by_cases h0:0<=i
 ·have hj:i.toNat=j:=by
   rw [seqIndex_of h0 h5] at h1
   exact Option.some.inj h1
  exact item_listR pl.isList h0 (by omega) (by rw [hj];simpa using ew) fin hs
 ·have hj:(i+(its.toArray.size:Int)).toNat=j:=by
   rw [seqIndex_neg (by omega) h4] at h1
   rw [List.size_toArray,<-hl]
   exact Option.some.inj h1
  exact subscriptTail_builtinR (x:=w) pl.isList.typeIs slot_list_getitem.lookup
   (wpAny_getItem_list_neg (Q:=fun r s'=>r=w/\EP X pins σ Q r s') pl.isList (by omega) (by rw [List.size_toArray] <;> omega) (by omega) (by rw [hj];simpa using ew) ⟨rfl,fin⟩) hs
theorem ix_tup:IxR X (rIxT X.K):=by
 intro value slice pins s σ H x y v u Q I rx ry h hs
 obtain ⟨p,xs,i,z,rfl,rfl,hq,he,q⟩:=h
 cases rx
 obtain ⟨t,rfl⟩:=ry
 obtain ⟨its,r,pl,hz⟩:=I.tuple hq
 obtain ⟨j,h1,h2,h3,h4,h5⟩:=atI_get he
 obtain ⟨w,ew,rw'⟩:=r.get h2
 have hl:=r.length
 have hn:=line63
 have fin:EP X pins σ Q w s:=⟨z,H,I,rw',q⟩
 exact subscriptTail_builtinR (x:=w) pl.typeIs slot_tuple_getitem.lookup
  (getItem_tuple (j:=j) (Q:=fun r s'=>r=w/\EP X pins σ Q r s') pl (by omega) (by omega) (by rw [List.size_toArray,<-hl];exact h1) (by simpa using ew) ⟨rfl,fin⟩) hs
theorem ix_str:IxR X rIxS:=by
 intro value slice pins s σ H x y v u Q I rx ry h hs
 obtain ⟨z,i,c,rfl,rfl,hz,he,q⟩:=h
 obtain ⟨t,rfl⟩:=rx
 obtain ⟨t',rfl⟩:=ry
 obtain ⟨j,h1,h2,h3,h4,h5⟩:=atI_get he
 have hl:z.cps.toList.length=z.length:=by simp [Str.length]
 rw [hl] at h1 h4 h5
 have hn:=line63
 exact tail_any (typeIs_str s z t) slot_str_getitem.lookup (getItem_str (c:=c) (by
  have e1:decide (i < -(2 ^ 63:Int))=false:=decide_eq_false (by omega)
  have e2:decide (i ≥ 2 ^ 63)=false:=decide_eq_false (by omega)
  rw [e1,e2,Bool.or_false]) (by rw [h1];simpa using h2) ⟨.str ⟨#[c]⟩,H,I.tok _,⟨_,rfl⟩,q⟩) hs
theorem mapSeq_set (its:List Value) (n j:Nat) (u:Value):Obj.mapSeq (·.setIfInBounds j u) { cls:=.type "list",data:=.seq its.toArray n }={ cls:=.type "list",data:=.seq (its.set j u).toArray n }:=by
 simp [Obj.mapSeq]
theorem Inv.lst {pins:List (Addr × Obj)} {σ:St} {H:Hp} {s:Shared} {p:Addr} {xs:List V} (I:Inv X pins σ H s) (h:H p=some (.lst xs)) :
  ∃ (its:List Value) (n:Nat),Vals xs its/\s.heap.get? p=some { cls:=.type "list",data:=.seq its.toArray n }/\xs.length<=sizeLine:=by
 obtain ⟨z,its,n,r,e⟩:=I.hok p _ h
 exact ⟨its,n,r,e,z⟩
theorem Inv.lstUpd {pins:List (Addr × Obj)} {σ:St} {H:Hp} {s:Shared} {p:Addr} {xs ys:List V} {its its':List Value} {n n':Nat} {f:Obj->Obj} (I:Inv X pins σ H s) (h:H p=some (.lst xs))
  (ho:s.heap.get? p=some { cls:=.type "list",data:=.seq its.toArray n }) (hf:f { cls:=.type "list",data:=.seq its.toArray n }={ cls:=.type "list",data:=.seq its'.toArray n' }) (r:Vals ys its') (hz:ys.length<=sizeLine) (t:Nat) :
  Inv X pins σ (upd H p (.lst ys)) { s with heap:=s.heap.update p f,toks:=t }:=by
 have e:(s.heap.update p f).get? p=some { cls:=.type "list",data:=.seq its'.toArray n' }:=by
  rw [Heap.get?_update_self f ho (by rw [hf] <;> rfl),hf]
 refine I.write (x:=p) (e:=p) (by rw [h];trivial) (.inl rfl) (fun b u hb q=>(Heap.get?_update_other _ _ (Ne.symm hb)).trans q) ⟨_,e⟩ ?_
 exact ⟨hz,its',n',r,e⟩
def rSetL:V->V->V->Hp->(Hp->Prop)->Prop:=fun o i v H Q=>∃ p xs k j,o=.ref p/\i=.int k/\H p=some (.lst xs)/\ixN xs.length k=some j/\Q (upd H p (.lst (xs.set j v)))
theorem set_list:PSet X rSetL:=by
 intro pins s σ H o i v ov iv u Q I ro ri rv h
 obtain ⟨p,xs,k,j,rfl,rfl,hp,hj,q⟩:=h
 cases ro
 obtain ⟨t,rfl⟩:=ri
 obtain ⟨its,n,r,ho,hz⟩:=I.lst hp
 obtain ⟨h1,h2,h3,h4⟩:=ixN_seq hj
 have hl:=r.length
 have hn:=line63
 have I':Inv X pins σ (upd H p (.lst (xs.set j v))) { s with heap:=s.heap.update p (Obj.mapSeq (·.setIfInBounds j u)) }:=
  I.lstUpd hp ho (mapSeq_set its n j u) (r.set rv j) (by rw [List.length_set];exact hz) s.toks
 by_cases h0:0<=k
 ·have hk:k.toNat=j:=by
   rw [seqIndex_of h0 h4] at h1
   exact Option.some.inj h1
  exact PySem.W.ki_setAt ho h0 (by omega) (by rw [List.size_toArray,<-hl];exact h4) (by rw [hk];exact ⟨_,I',q⟩)
 ·have hk:(k+(its.toArray.size:Int)).toNat=j:=by
   rw [seqIndex_neg (by omega) h3] at h1
   rw [List.size_toArray,<-hl]
   exact Option.some.inj h1
  exact PySem.W.ki_setBack ho (by omega) (by rw [List.size_toArray,<-hl];exact h3) (by omega) (by rw [hk];exact ⟨_,I',q⟩)
def flatV:V->Bool
 | .non=>true
 | .bl _=>true
 | .int _=>true
 | .str _=>true
 | _=>false
def eqV:V->V->Bool
 | .non,.non=>true
 | .bl a,.bl b=>a == b
 | .bl a,.int b=>(if a then 1 else 0) == b
 | .int a,.bl b=>a == (if b then 1 else 0)
 | .int a,.int b=>a == b
 | .str a,.str b=>a == b
 | _,_=>false
theorem eqAt_V {A:Around} {s:Shared} {y x:V} {u v:Value} (ry:RelV y u) (rx:RelV x v) (fy:flatV y=true) (fx:flatV x=true):SeqAt.EqAt A s u v (eqV y x):=by
 cases y with
 | non=>
  cases ry
  cases x with
  | non=>cases rx;exact SeqAt.EqAt.same _
  | bl b=>cases rx;exact SeqAt.EqAt.none_bool b
  | int b=>obtain ⟨t,rfl⟩:=rx;exact SeqAt.EqAt.none_int b t
  | str b=>obtain ⟨t,rfl⟩:=rx;exact SeqAt.EqAt.none_str b t
  | _=>exact absurd (show false=true from fx) Bool.false_ne_true
 | bl a=>
  cases ry
  cases x with
  | non=>cases rx;exact SeqAt.EqAt.bool_none a
  | bl b=>cases rx;exact SeqAt.EqAt.bool_bool a b
  | int b=>obtain ⟨t,rfl⟩:=rx;exact SeqAt.EqAt.bool_int a b t
  | str b=>obtain ⟨t,rfl⟩:=rx;exact SeqAt.EqAt.bool_str a b t
  | _=>exact absurd (show false=true from fx) Bool.false_ne_true
 | int a=>
  obtain ⟨t',rfl⟩:=ry
  cases x with
  | non=>cases rx;exact SeqAt.EqAt.int_none a t'
  | bl b=>cases rx;exact SeqAt.EqAt.int_bool a t' b
  | int b=>obtain ⟨t,rfl⟩:=rx;exact SeqAt.EqAt.int_int a t' b t
  | str b=>obtain ⟨t,rfl⟩:=rx;exact SeqAt.EqAt.int_str a t' b t
  | _=>exact absurd (show false=true from fx) Bool.false_ne_true
 | str a=>
  obtain ⟨t',rfl⟩:=ry
  cases x with
  | non=>cases rx;exact SeqAt.EqAt.str_none a t'
  | bl b=>cases rx;exact SeqAt.EqAt.str_bool a t' b
  | int b=>obtain ⟨t,rfl⟩:=rx;exact SeqAt.EqAt.str_int a t' b t
  | str b=>obtain ⟨t,rfl⟩:=rx;exact SeqAt.EqAt.str_str a t' b t
  | _=>exact absurd (show false=true from fx) Bool.false_ne_true
 | _=>exact absurd (show false=true from fy) Bool.false_ne_true
def eqU (x:V) (u:Value):Bool:=match u with
 | .none=>eqV .non x
 | .bool b=>eqV (.bl b) x
 | .int i _=>eqV (.int i) x
 | .str z _=>eqV (.str z) x
 | _=>false
theorem eqU_of {x y:V} {u:Value} (r:RelV y u) (f:flatV y=true):eqU x u=eqV y x:=by
 cases y with
 | non=>cases r;rfl
 | bl b=>cases r;rfl
 | int i=>obtain ⟨t,rfl⟩:=r;rfl
 | str z=>obtain ⟨t,rfl⟩:=r;rfl
 | _=>exact absurd (show false=true from f) Bool.false_ne_true
theorem mem_eqAt {A:Around} {s:Shared} {x:V} {v:Value} (rx:RelV x v) (fx:flatV x=true):∀ {xs:List V} {us:List Value},Vals xs us->xs.all flatV=true->∀ u ∈ us,SeqAt.EqAt A s u v (eqU x u)
 | _,_,.nil,_=>fun u hu=>by cases hu
 | y :: xs,u :: us,.cons r t,f=>fun u' hu=>by
  rw [List.all_cons,Bool.and_eq_true] at f
  rcases List.mem_cons.mp hu with rfl | hu
  ·rw [eqU_of r f.1];exact eqAt_V r rx f.1 fx
  ·exact mem_eqAt rx fx t f.2 u' hu
theorem call_len_seq:CallR X (.builtin "len") (fun xs H Q=>∃ p ys,xs=[.ref p]/\(SqL X.K H p ys\/SqT X.K H p ys)/\Q (.int ys.length) H):=by
 intro pins s σ H xs us Q I r h
 obtain ⟨p,ys,rfl,hq,q⟩:=h
 obtain ⟨u,rfl,rx⟩:=vals1 r
 cases rx
 have hn:=line63
 rcases hq with hq | hq
 ·obtain ⟨its,r',pl,hz⟩:=I.list hq
  have hlen:=r'.length
  exact Calls.call_len_list pl.isList (by simp only [List.size_toArray] <;> omega) ⟨.int ys.length,H,I.tok _,⟨s.toks+1,by rw [List.size_toArray,hlen]⟩,q⟩
 ·obtain ⟨its,r',pl,hz⟩:=I.tuple hq
  have hlen:=r'.length
  exact len_tuple pl (by simp only [List.size_toArray] <;> omega) ⟨.int ys.length,H,I.tok _,⟨s.toks+1,by rw [List.size_toArray,hlen]⟩,q⟩
theorem call_len_str:CallR X (.builtin "len") (fun xs H Q=>∃ z,xs=[.str z]/\z.length<=sizeLine/\Q (.int z.length) H):=by
 intro pins s σ H xs us Q I r h
 obtain ⟨z,rfl,hz,q⟩:=h
 obtain ⟨u,rfl,t,rfl⟩:=vals1 r
 have hn:=line63
 exact len_str (by omega) ⟨.int z.length,H,I.tok _,⟨_,rfl⟩,q⟩
theorem call_tuple_of:CallR X (.type "tuple") (fun xs H Q=>∃ p ys,xs=[.ref p]/\((SqL X.K H p ys/\∀ l,H l=none->Q (.ref l) (upd H l (.tup ys)))\/(SqT X.K H p ys/\Q (.ref p) H))):=by
 intro pins s σ H xs us Q I r h
 obtain ⟨p,ys,rfl,h⟩:=h
 obtain ⟨u,rfl,rx⟩:=vals1 r
 cases rx
 rcases h with ⟨hq,q⟩ | ⟨hq,q⟩
 ·obtain ⟨its,r',pl,hz⟩:=I.list hq
  have hlen:=r'.length
  refine call_tuple_list pl.isList (fun h' kp=>?_) (by simp only [List.size_toArray] <;> omega)
  have I1:Inv X pins σ H { s with heap:=h' }:=I.kept (t':=s.toks) kp
  have I2:Inv X pins σ (upd H h'.objs.size (.tup ys)) { s with heap:=h'.push { cls:=.type "tuple",data:=.seq its.toArray } }:=
   I1.laid (t':=s.toks) (fun b o e=>Heap.get?_push_of_some _ e) (Nat.le_refl _) (show ObjOk X.prog X.w _ _ _ (.tup ys) from ⟨hz,its,r',IsTup.new _ _⟩)
  exact ⟨.ref h'.objs.size,_,I2,rfl,q _ (I1.hok.fresh (Nat.le_refl _))⟩
 ·obtain ⟨its,r',pl,hz⟩:=I.tuple hq
  exact call_tuple_same pl ⟨.ref p,H,I,rfl,q⟩
def tyV (K:PySem.W.Frag) (T:String) (x:V) (H:Hp):Prop:=match x with
 | .str _=>T = "str"
 | .int _=>T = "int"
 | .ref p=>(T = "list"/\∃ xs,SqL K H p xs)\/(T = "tuple"/\∃ o,K.lookup p=some o/\o.cls=.type "tuple"/\o.dict=none) ∨
   (T = "dict"/\((∃ kvs,H p=some (.dK kvs))\/∃ kvs,H p=some (.dT kvs)))\/(T = "set"/\∃ S n,H p=some (.set S n))
 | _=>False
theorem tyV_is {pins:List (Addr × Obj)} {σ:St} {H:Hp} {s:Shared} {T:String} {x:V} {v:Value} (I:Inv X pins σ H s) (r:RelV x v) (ty:tyV X.K T x H) :
  s.TypeIs v T/\∀ a,v=.ref a->∃ ob,s.heap.get? a=some ob/\ob.dict=none:=by
 cases x with
 | str z=>
  obtain ⟨t,rfl⟩:=r
  cases (show T = "str" from ty)
  exact ⟨typeIs_str s z t,fun _ e=>nomatch e⟩
 | int i=>
  obtain ⟨t,rfl⟩:=r
  cases (show T = "int" from ty)
  exact ⟨typeIs_int s i t,fun _ e=>nomatch e⟩
 | ref p=>
  cases r
  rcases ty with ⟨rfl,xs,hq⟩ | ⟨rfl,o,hk,hc,hd⟩ | ⟨rfl,hk⟩ | ⟨rfl,S,n,hk⟩
  ·obtain ⟨its,_,pl,_⟩:=I.list hq
   refine ⟨pl.isList.typeIs,fun a e=>?_⟩
   cases e
   obtain ⟨o,n,e,c,hd,_⟩:=pl
   exact ⟨o,e,hd⟩
  ·refine ⟨⟨o,I.kIn p o hk,hc⟩,fun a e=>?_⟩
   cases e
   exact ⟨o,I.kIn _ o hk,hd⟩
  ·have z:∃ o,s.heap.get? p=some o/\o.ExactDict:=by
    rcases hk with ⟨kvs,hk⟩ | ⟨kvs,hk⟩
    ·obtain ⟨_,_,_,_,o,_,_,e,ex,_⟩:=I.hok p _ hk
     exact ⟨o,e,ex⟩
    ·exact False.elim (show ObjOk X.prog X.w H s.heap p (.dT kvs) from I.hok p _ hk)
   obtain ⟨o,e,ex⟩:=z
   refine ⟨⟨o,e,ex.1⟩,fun a e2=>?_⟩
   cases e2
   exact ⟨o,e,ex.2.1⟩
  ·obtain ⟨o,_,_,_,e,ex,_⟩:=I.hok p _ hk
   refine ⟨⟨o,e,ex.1⟩,fun a e2=>?_⟩
   cases e2
   exact ⟨o,e,ex.2.1⟩
 | _=>exact False.elim ty
def tBM (K:PySem.W.Frag) (T:String) (r:V->List V->Hp->VK->Prop) (to:TE) (t:TA):TE:=fun σ H Q=>to σ H fun x H1=>tyV K T x H1/\t σ H1 fun xs H2=>r x xs H2 Q
variable {o e:Expr} {es:List Expr} {to:TE} {t:TA} {name:Str} {apos cpos:Pos} {T id:String} {r:V->List V->Hp->VK->Prop}
theorem pe_bm (pa:PlainAttrs T) (slot:Slot T name id) (hty:typeOf (.builtin id)=pure (.type "method_descriptor")) (hm:MtR X id r) (ho:PE X o to) (ha:PA X (e :: es) t)
  (hbase:attributeBase o name X.env (eval o X.env)=eval o X.env:=by rfl)
  (hfew:((backTo cpos (starEach (e :: es) X.env)).all (fun x=>!x.1) && (backToKw cpos (keywordEach [] X.env)).all (fun x=>x.1.isSome)
   && decide ((e :: es).length+([]:List Keyword).length+(if ([]:List Keyword).isEmpty then 0 else 1) < 30))=true:=by rfl)
  (hline:(apos.endLine == cpos.line)=true:=by rfl) (hs:starEach (e :: es) X.env=(false,eval e X.env) :: starEach es X.env:=by rfl) (hplain:(backTo cpos (starEach es X.env)).any (·.1)=false:=by rfl) :
  PE X (.Call (.Attribute o name apos) (e :: es) [] cpos) (tBM X.K T r to t):=by
 intro pins s σ H Q I h
 refine wpAny_Call_method_late hbase hfew hline rfl (thn (ho pins s σ H _ I h) fun v s1 ⟨x,H1,I1,r1,ty,q1⟩=>?_)
 obtain ⟨h1,h2⟩:=tyV_is I1 r1 ty
 refine ⟨T,id,pa,slot,hty,h1,h2,?_⟩
 have hA:=ha cpos pins s1 σ H1 _ I1 q1
 rw [hs] at hA ⊢
 refine Calls.callWith_builtin (by show (false || (backTo cpos (starEach es X.env)).any (·.1))=false;rw [hplain] <;> rfl) (Calls.evalArgs_plain ?_)
 exact thn hA fun us s2 ⟨vs,H2,I2,r2,q2⟩=>hm pins s2 σ H2 x vs v us Q I2 r1 r2 q2
/- xs.append(e),list.index on a module's tuple .. are MtR facts of 06m -/
end
end L2
namespace L2
open PySem PySem.Spec PyProof.Rows
def MtM (X:Cx) (id:String) (r:V->List V->Hp->VK->Prop):Prop:=
 ∀ (pins:List (Addr × Obj)) (s:Shared) (σ:St) (H:Hp) (x:V) (xs:List V) (v:Value) (us:List Value) (Q:VK),Inv X pins σ H s->RelV x v->Vals xs us->r x xs H Q →
  wpAny (model X.prog X.w) X.A (call (.builtin id) (v :: us)) (EP X pins σ Q) X.xe s
theorem Vals.one:∀ {x:V} {us:List Value},Vals [x] us->∃ u,us=[u]/\RelV x u
 | _,_,.cons r .nil=>⟨_,rfl,r⟩
theorem Vals.two:∀ {x y:V} {us:List Value},Vals [x,y] us->∃ u v,us=[u,v]/\RelV x u/\RelV y v
 | _,_,_,.cons r (.cons q .nil)=>⟨_,_,rfl,r,q⟩
section
variable {X:Cx} {pins:List (Addr × Obj)} {σ:St} {H:Hp} {s:Shared} {l b:Addr} {xs ys zs:List V}
theorem Inv.lset {its its':List Value} {n:Nat} {f:Array Value->Array Value} {t':Nat} (I:Inv X pins σ H s) (hH:H l=some (.lst xs))
  (e:s.heap.get? l=some { cls:=.type "list",data:=.seq its.toArray n }) (hf:f its.toArray=its'.toArray) (hv:Vals ys its') (hz:ys.length<=sizeLine) :
  Inv X pins σ (upd H l (.lst ys)) { s with heap:=s.heap.update l (Obj.mapSeq f),toks:=t' }:=by
 have q:=PySem.IsL.update e f
 rw [hf] at q
 refine I.write (x:=l) (e:=l) (by rw [hH];exact trivial) (.inl rfl) (fun b' u hb hu=>(Heap.get?_update_other s.heap (Obj.mapSeq f) (Ne.symm hb)).trans hu) ⟨_,q⟩ ?_
 exact ⟨hz,its',_,hv,q⟩
theorem Inv.lnew {its:List Value} {t':Nat} (I:Inv X pins σ H s) (hv:Vals ys its) (hz:ys.length<=sizeLine) :
  Inv X pins σ (upd H s.heap.objs.size (.lst ys)) { s with heap:=s.heap.push { cls:=.type "list",data:=.seq its.toArray },toks:=t' }:=
 I.laid (fun _ _ q=>Heap.get?_push_of_some _ q) (Nat.le_refl _) ⟨hz,its,0,hv,Heap.get?_push_size _ rfl⟩
theorem Inv.fresh (I:Inv X pins σ H s):H s.heap.objs.size=none:=I.hok.fresh (Nat.le_refl _)
theorem Inv.lstM (I:Inv X pins σ H s) (hH:H l=some (.lst xs)):xs.length<=sizeLine/\∃ (its:List Value) (n:Nat),Vals xs its/\xs.length=its.length/\s.heap.get? l=some { cls:=.type "list",data:=.seq its.toArray n }:=by
 obtain ⟨z,its,n,r,e⟩:=I.hok l _ hH
 exact ⟨z,its,n,r,r.length,e⟩
theorem notLongL {n:Nat} (h:n<=sizeLine):Builtin.List.listTooLong n=false:=by
 unfold Builtin.List.listTooLong
 exact decide_eq_false (by omega)
end
section
variable {X:Cx}
def rAppend:V->List V->Hp->VK->Prop:=fun x vs H Q=>∃ l xs y,x=.ref l/\vs=[y]/\H l=some (.lst xs)/\xs.length < sizeLine/\Q .non (upd H l (.lst (xs++[y])))
theorem mt_append:MtM X "list.append" rAppend:=by
 intro pins s σ H x vs v us Q I rx rv h
 obtain ⟨l,xs,y,rfl,rfl,hH,hz,q⟩:=h
 cases rx
 obtain ⟨u,rfl,ru⟩:=rv.one
 obtain ⟨z,its,n,r,hl,e⟩:=I.lstM hH
 refine call_meets F.slot_list_append ⟨_,e,rfl⟩ F.entry_list_append (F.args_list_append_2 _ _) (PySem.list_append l its.toArray n u (by rw [List.size_toArray];omega)) ⟨e,?_⟩
 refine ⟨.non,_,I.lset (its':=its++[u]) hH e (by simp) (r.append (.cons ru .nil)) ?_,rfl,q⟩
 rw [List.length_append,List.length_singleton]
 omega
def rExtend:V->List V->Hp->VK->Prop:=fun x vs H Q=>∃ l b xs zs,x=.ref l/\vs=[.ref b]/\H l=some (.lst xs)/\H b=some (.lst zs)/\xs.length+zs.length<=sizeLine/\Q .non (upd H l (.lst (xs++zs)))
theorem mt_extend:MtM X "list.extend" rExtend:=by
 intro pins s σ H x vs v us Q I rx rv h
 obtain ⟨l,b,xs,zs,rfl,rfl,hH,hB,hz,q⟩:=h
 cases rx
 obtain ⟨u,rfl,ru⟩:=rv.one
 cases ru
 obtain ⟨z,its,n,r,hl,e⟩:=I.lstM hH
 obtain ⟨z2,its2,n2,r2,hl2,e2⟩:=I.lstM hB
 have hsz:its.toArray.size+its2.toArray.size<=sizeLine:=by rw [List.size_toArray,List.size_toArray];omega
 have hlong:¬ (!its.toArray.isEmpty && Builtin.List.listTooLong (its.toArray.size+its2.toArray.size))=true:=by
  rw [notLongL hsz,Bool.and_false]
  exact Bool.false_ne_true
 refine call_meets F.slot_list_extend ⟨_,e,rfl⟩ F.entry_list_extend (F.args_list_extend_2 _ _)
  (AutoSeq1.list_extend_list_list_0 l its.toArray n b its2.toArray n2 hlong (by rw [List.size_toArray];omega) (by omega)) ⟨e,e2,?_⟩
 refine ⟨.non,_,I.lset (its':=its++its2) hH e (by simp) (r.append r2) ?_,rfl,q⟩
 rw [List.length_append]
 omega
def rCat:R2:=fun x y H Q=>∃ l b xs zs,x=.ref l/\y=.ref b/\H l=some (.lst xs)/\H b=some (.lst zs)/\xs.length+zs.length<=sizeLine/\∀ p,H p=none->Q (.ref p) (upd H p (.lst (xs++zs)))
theorem op_cat:OpR X (binaryOp .Add) rCat:=by
 intro pins s σ H x y v u Q I rx ry h
 obtain ⟨l,b,xs,zs,rfl,rfl,hH,hB,hz,q⟩:=h
 cases rx
 cases ry
 obtain ⟨z,its,n,r,hl,e⟩:=I.lstM hH
 obtain ⟨z2,its2,n2,r2,hl2,e2⟩:=I.lstM hB
 refine PySem.P.add_list e e2 ?_ (by rw [List.size_toArray,List.size_toArray];omega)
 have ea:its.toArray++its2.toArray=(its++its2).toArray:=by simp
 rw [ea]
 exact ⟨.ref _,_,I.lnew (t':=s.toks) (r.append r2) (by rw [List.length_append];omega),rfl,q _ I.fresh⟩
end
section
variable {prog:Program} {w:World} {A:Around} {E:Value->Shared->Prop} {s:Shared}
set_option maxRecDepth 100000 in
end
section
variable {X:Cx}
end
end L2
namespace Att
open PySem PySem.W PySem.Calls PyProof.Rows
theorem ints_of_wellAll {P:Params} {h:Heap}:∀ (ns:List Int) (vs:List Value),WellAll P h vs (ns.map WData.int)->IntsAre vs ns:=by
 intro ns
 induction ns with
 | nil=>
  intro vs w
  rw [List.map_nil] at w
  cases w
  exact .nil
 | cons n ns ih=>
  intro vs w
  rw [List.map_cons] at w
  cases w with
  | cons a b=>
   cases a
   exact .cons _ _ (ih _ b)
theorem script_of {l:OpenLaw} {n:Nat} (hn:l.most=some n) {P:Params} {h:Heap} {args:List WData} {vals:List Value}
  (hpre:l.row.toRowW.claim.pre args=true) (hwl:WellAll P h vals args) :
  ∃ a vs ns,vals=[Value.ref a]/\args=[WData.list (ns.map WData.int)]/\h.get? a=some { cls:=.type "list",data:=.seq vs.toArray }/\IntsAre vs ns/\ns.length<=n:=by
 have hsh:WShape.hasAll [] args [.list .int]=true:=(pre_splitW hpre).1
 have hc:l.pre.holds [] { args:=args }=true:=(pre_splitW hpre).2
 obtain ⟨d,r,rfl,h1,h2⟩:=hasAllW_cons hsh
 obtain rfl:=hasAllW_nil h2
 obtain ⟨xs,rfl,h3⟩:=hasW_list h1
 obtain ⟨ns,rfl⟩:=items_int h3
 have hlen:ns.length<=n:=by
  unfold OpenLaw.pre at hc
  have h4:(WTm.not (.lt (.lit (.int (n:Int))) (.len (.arg 0)))).holds [] { args:=[.list (ns.map .int)] }=true:=by
   have h4:=(holds_andW hc).1
   rw [hn] at h4
   exact h4
  have h5:=condW_of h4 (w_not (w_lt w_lit (w_len_list (w_arg rfl))))
  rw [List.length_map] at h5
  refine Nat.le_of_not_lt fun q=>?_
  have q':(n:Int) < ((ns.length:Nat):Int):=by omega
  first
   | (rw [decide_eq_true q'] at h5;exact absurd h5 (by decide))
   | (simp at h5;omega)
 cases hwl with
 | cons w1 w2=>
  cases w2
  cases w1 with
  | list ho hall=>exact ⟨_,_,ns,rfl,rfl,ho,ints_of_wellAll ns _ hall,hlen⟩
theorem post_true (l:OpenLaw) (args:List WData):l.row.toRowW.claim.post args (.bool true) args=true:=
 postW_of (r:=l.row.toRowW) (X:=(true == true))
  (show WShape.has [] (.bool true) .bool=true by first | rfl | decide | simp [WShape.has,WShape.arms,WShape.armsAll])
  (show (WTm.eq .res (.lit (.bool true))).value [] { args:=args,res:=some (.bool true),after:=args }=some (.bool (true == true)) from w_eq_bool (w_res rfl) w_lit) rfl
section
variable {prog:Program} {w:World} {A:Around} {E:Value->Shared->Prop} {s:Shared} {K:Frag}
end
end Att
namespace L2
open PySem PySem.Spec PyProof.Rows
theorem vals_ints:∀ {vs:List Value} {ns:List Int},IntsAre vs ns->Vals (ns.map V.int) vs
 | _,_,.nil=>.nil
 | _,_,.cons n t h=>.cons ⟨t,rfl⟩ (vals_ints h)
def Only (H:Hp):Prop:=∀ b,H b=none\/∃ o xs,H b=some (.frz o (.lst xs))
theorem law_call {P:Program} {w:World} {K:PySem.W.Frag} {mg mb:Str->Option Value} {CX:CXT} {k:Nat} {fa a:Addr} {fd:FuncData} {x:Str} {sp:Sp} {s₁:Shared} {vs:List Value} {ns:List Int}
  (KX:K.In s₁.heap) (hns:s₁.heap.Ns mainGlobals mg) (hb:s₁.heap.Ns builtinsNs mb) (hbb:∀ x:Str,x ≠ "__name__"->mb x=bootBuiltins x) (hlim:s₁.heap.NoLimit) (hg:s₁.gens=#[])
  (ha:s₁.heap.get? a=some { cls:=.type "list",data:=.seq vs.toArray }) (hi:IntsAre vs ns) (hl:ns.length<=sizeLine) (hr:Room k callerA)
  (F:∀ base:Heap,K.In base->base.Ns mainGlobals mg->FnOk P w K mg base CX k fa fd [x] sp) (hbind:∀ (s:Shared) (u:Value),BindsTo s fd ⟨[u],[]⟩ [(x,u)])
  (hsp:∀ H:Hp,Only H->SqL K H a (ns.map V.int)->sp [.ref a] H (fun v _=>v=.bl true) fun _ _ _=>False)
  (hCX:∀ H e s',CX [] H s₁ (fun _ _ _=>False) e s'->False) :
  codeAny (model P w) callerA (.call (.ref fa) ⟨[.ref a],[]⟩) (fun r s'=>r=.ok (.ret (.bool true))/\OldK s₁.heap s'.heap/\s'.os=s₁.os/\AllBare s'.gens) s₁:=by
 have rv:=vals_ints hi
 have lenV:=hi.length
 -- from an abstract heap in which nothing but the script may be tracked
 have core:∀ H:Hp,Only H->SqL K H a (ns.map V.int)->HOk P w H s₁.heap->(∀ b,H b ≠ none->b=a)->(H a ≠ none->K.lookup a=none) →
   codeAny (model P w) callerA (.call (.ref fa) ⟨[.ref a],[]⟩) (fun r s'=>r=.ok (.ret (.bool true))/\OldK s₁.heap s'.heap/\s'.os=s₁.os/\AllBare s'.gens) s₁:=by
  intro H hO hS hok hA hK
  have base_of:∀ {b:Addr} {o:Obj},s₁.heap.get? b=some o->H b=none->(hidT s₁.heap H).get? b=some o:=fun e n=>hidT_get e n
  have noA:∀ {b:Addr} {o:Obj} {es:Array DictEntry} {ep:Nat},s₁.heap.get? b=some o->o.data=.dict es ep->H b=none:=fun {b o es ep} e d=>by
   cases q:H b with
   | none=>rfl
   | some u=>
    have e':b=a:=hA b (by rw [q];simp)
    subst e'
    rw [ha] at e;cases e
    have d':Data.seq vs.toArray _=Data.dict es ep:=d
    cases d'
  have nsK:∀ {b:Addr} {m:Str->Option Value},s₁.heap.Ns b m->(hidT s₁.heap H).Ns b m:=fun {b m} ⟨o,es,ep,e,d,r⟩=>⟨o,es,ep,base_of e (noA e d),d,r⟩
  have hKb:K.In (hidT s₁.heap H):=fun b o e=>base_of (KX b o e) (by
   cases q:H b with
   | none=>rfl
   | some u=>
    have e':b=a:=hA b (by rw [q];simp)
    subst e'
    rw [hK (by rw [q];simp)] at e;cases e)
  have hM:Mod K mg (hidT s₁.heap H):=⟨hKb,nsK hns,⟨mb,nsK hb,hbb⟩,let ⟨mc,h1,h2⟩:=hlim;⟨mc,nsK h1,h2⟩⟩
  have e0:Env0 P w K mg (hidT s₁.heap H) callerA [] s₁ H:=⟨rfl,hM,fun b o e=>of_hidT e,Nat.le_of_eq (hidT_size _ _),trivial,fun b hb=>absurd (show b ∈ ([]:List Addr) from hb) (by simp),hok,.of_eq hg⟩
  refine codeAny_mono ((F _ hKb (nsK hns)).run callerA [] s₁ H ⟨[.ref a],[]⟩ [.ref a] [.ref a] _ _ hr e0 (hbind s₁ (.ref a)) (.cons rfl .nil) (hsp H hO hS)) fun r s' h=>?_
  cases r with
  | error e=>exact (hCX H e s' h).elim
  | ok fl=>
   cases fl with
   | next=>exact False.elim h
   | brk=>exact False.elim h
   | cont=>exact False.elim h
   | ret u=>
    obtain ⟨v,H',os,bare,un,hok',r',q⟩:=h
    have q':v=.bl true:=q
    subst q'
    obtain rfl:u=Value.bool true:=r'
    refine ⟨rfl,OldK.of_keep fun b o e=>?_,os,bare⟩
    cases q:H b with
    | none=>exact un.keep b o e q (by intro z;exact absurd (show b ∈ ([]:List Addr) from z) (by simp)) (by simp)
    | some u=>
     rcases hO b with z | ⟨ob,xs,z⟩
     ·rw [q] at z;cases z
     ·have z2:=un.frzs b ob _ z
      obtain ⟨e1,_⟩:=hok b _ z
      obtain ⟨e2,_⟩:=hok' b _ z2
      rw [e] at e1;cases e1
      exact e2
 cases hk:K.lookup a with
 | some o=>
  -- the script is one of the module's own objects
  have e:=KX a o hk
  rw [ha] at e
  cases e
  refine core (fun _=>none) (fun _=>.inl rfl) (.inr ⟨_,vs.toArray,_,hk,rfl,rfl,rfl,by rw [List.size_toArray,lenV];exact hl,by simpa using rv⟩) (fun b u z=>by have z':(none:Option HO)=some u:=z;cases z') (fun b z=>absurd rfl z) fun z=>absurd rfl z
 | none=>
  refine core (fun b=>if b=a then some (.frz { cls:=.type "list",data:=.seq vs.toArray } (.lst (ns.map V.int))) else none) (fun b=>?_) (.inl (.inr ⟨{ cls:=.type "list",data:=.seq vs.toArray },if_pos rfl⟩)) (fun b u z=>?_) (fun b z=>?_) fun _=>hk
  ·by_cases hb:b=a
   ·exact .inr ⟨_,_,if_pos hb⟩
   ·exact .inl (if_neg hb)
  ·by_cases hb:b=a
   ·have z':=(if_pos hb).symm.trans z
    cases z'
    subst hb
    exact ⟨ha,by rw [List.length_map];exact hl,vs,_,rv,ha⟩
   ·have z':=(if_neg hb).symm.trans z
    cases z'
  ·by_cases hb:b=a
   ·exact hb
   ·exact absurd (if_neg hb) z
end L2
namespace L2
open PySem PySem.Spec PyProof.Rows
end L2
/- THE LAST THEOREM (shape;LID,My.* are yours):
   My.Adr: a structure of the addresses that your layer names (classes,functions);My.Txt K t: a structure (Prop) of the equations over K;
   My.txt_mk:{K} {implicit addresses ..} (e1:nsIn K mainGlobals "law" = some (some (.ref f))) (e2:K.lookup f=some ⟨oc,od,.func (fnOf "law" "law" params body scope dV kV doc pm an cdv ct),sl⟩) (e3:codeIn K cdv "law" = true) ..:∃ t,My.Txt K t
set_option maxRecDepth 100000 in
set_option maxHeartbeats 0 in
theorem PySem.Challenge.cw_LID_holds : PySem.Challenge.rw_LID.Holds := by
 w_on;o_law;k_head;(case hw=>w_witness2)
 k_fill
 refine L2.walk_of (l:=PySem.Challenge.rw_LID) (n:=63) (k:=40) (x := "script") (CX:=fun w=>..) (sp:=fun _=>My.sp_law) rfl (by decide) rfl ⟨rfl,by decide,by decide⟩ (fun w h Y=>PySem.W.kIn_of Y) ?F ?S ?C
 case F=>
  intro w mg fa h KX G hmg
  have T:∃ t,My.Txt (L2.KOf KX) t:=by
   dsimp only [L2.KOf]                          -- K must stand as «<heap const> w.params» for k_is
   refine' My.txt_mk ?e1 ?e2 ?e3 ..
   (case e1=>PySem.W.k_is)                    -- in the order: a name -> its address -> its object -> its parts
   (case e2=>PySem.W.k_is)
   ..
  obtain ⟨t,T⟩:=T
  have e0:=hmg.symm.trans (PySem.W.mg_of KX G T.law)
  cases e0                                       -- fa is the law's own address
  exact ⟨_,fun s u=>.of_eq rfl,fun base kb nb=>My.law_fn T kb nb⟩     -- if «.of_eq rfl» comes too early: refine' ⟨_,?b,fun base kb nb=>My.law_fn T kb nb⟩;exact fun s u=>.of_eq rfl
 case S=>exact fun w H a ns hl hO hS=>..
 case C=>exact ..
(the tactic k_is has no namespace: write k_is) -/
namespace L2
open PySem PySem.Spec PyProof.Rows
abbrev CX0:CXT:=fun _ _ _ _ _ _=>False
abbrev E0:XK:=fun _ _ _=>False
theorem pass0 {X:Cx}:Passes CX0 X E0:=fun _ _ _ _ _ _ _ h=>h.elim
structure Fun (K:PySem.W.Frag) (x qual:Str) (st:Stmt) (f:Addr) (fd:FuncData):Prop where
 ex:∃ (oc:Value) (od:Option Addr) (kV doc pm:Value) (an:Option Addr) (cdv ct:Value) (osl:Array (Option Value)),
  fd=PySem.W.fnOf x qual (defArgs st) (defBody st) (defScope st) .none kV doc pm an cdv ct/\K.lookup f=some ⟨oc,od,.func fd,osl⟩/\PySem.W.codeIn K cdv qual=true
 kp:PySem.W.keepIn K (.ref f)=true
section
variable {P:Program} {w:World} {K:PySem.W.Frag} {mg:Str->Option Value} {base:Heap}
theorem Fun.ok {x qual:Str} {st:Stmt} {f:Addr} {fd:FuncData} {N ps:List Str} {k:Nat} {sp:Sp} (F:Fun K x qual st f fd) (S:FnScope N ps (defScope st)) (len:∀ vs H Q E,sp vs H Q E->vs.length=ps.length)
  (hbody:∀ (cdv:Value) (A:Around) (outer:List Env) (s:Shared) (H:Hp) (vs:List V) (Q:VK) (E:XK),Room k (A.deeper (envOfC qual (defScope st) s.heap.objs.size f cdv))->sp vs H Q E →
   ∃ t,PSs (cxOf CX0 P w K mg base N qual (defScope st) f cdv A outer s H E).nox (defBody st) t/\t { nx:=fun _ H'=>Q .non H',rt:=Q } (start N vs) H):FnOk P w K mg base CX0 (k+1) f fd ps sp:=by
 obtain ⟨oc,od,kV,doc,pm,an,cdv,ct,osl,rfl,lk,hcd⟩:=F.ex
 refine fn_of lk hcd S len fun A outer s H vs Q E hr hsp=>?_
 obtain ⟨t,h,q⟩:=hbody cdv A outer s H vs Q E hr hsp
 exact ⟨t,h.nox,q⟩
theorem Fun.binds {x qual:Str} {st:Stmt} {f:Addr} {fd:FuncData} {ps:List Str} (F:Fun K x qual st f fd)
  (h:∀ (kV doc pm:Value) (an:Option Addr) (cdv ct:Value) (us:List Value),us.length=ps.length->bindArgs (PySem.W.fnOf x qual (defArgs st) (defBody st) (defScope st) .none kV doc pm an cdv ct) ⟨us,[]⟩=pure (ps.zip us)):Binds K fd ps []:=by
 obtain ⟨oc,od,kV,doc,pm,an,cdv,ct,osl,rfl,lk,hcd⟩:=F.ex
 exact .all (h kV doc pm an cdv ct)
theorem fun_mk {x qual:Str} {st:Stmt} {f:Addr} {oc:Value} {od an:Option Addr} {osl:Array (Option Value)} {kV doc pm cdv ct:Value} (l:K.lookup f=some ⟨oc,od,.func (PySem.W.fnOf x qual (defArgs st) (defBody st) (defScope st) .none kV doc pm an cdv ct),osl⟩)
  (c:PySem.W.codeIn K cdv qual=true) (k:PySem.W.keepIn K (.ref f)=true):Fun K x qual st f (PySem.W.fnOf x qual (defArgs st) (defBody st) (defScope st) .none kV doc pm an cdv ct):=⟨⟨oc,od,kV,doc,pm,an,cdv,ct,osl,rfl,l,c⟩,k⟩
end
section
variable {X:Cx}
theorem pv (i:Nat) {x:Str} {pos:Pos} (hN:X.N[i]?=some x:=by rfl) (hv:Vis X.env.scope x:=by first | exact Or.inl rfl | exact Or.inr (Or.inl rfl) | exact Or.inr (Or.inr rfl)) (hd:(x == ("__debug__" : Str))=false:=by decide)
  (hcd:(x == ("__classdict__" : Str))=false:=by decide):PE X (.Name x pos) (tVar i):=pe_var hN hv hd hcd
end
theorem iteF {A B:Prop} (h:B):if false=true then A else B:=by
 rw [if_neg Bool.false_ne_true]
 exact h
theorem iteT {A B:Prop} (h:A):if true=true then A else B:=by
 rw [if_pos rfl]
 exact h
theorem ite2 {c A B:Prop} [Decidable c] (h1:c->A) (h2:¬ c->B):if c then A else B:=by
 by_cases h:c
 ·rw [if_pos h]
  exact h1 h
 ·rw [if_neg h]
  exact h2 h
theorem iteNS {c A B:Prop} [Decidable c] (hc:c) (h:B):if (!decide c)=true then A else B:=by
 rw [decide_eq_true hc]
 exact iteF h
def Same (H H':Hp):Prop:=∀ b o,H b=some o->H' b=some o
theorem Same.refl (H:Hp):Same H H:=fun _ _ h=>h
theorem Same.trans {H H1 H2:Hp} (a:Same H H1) (b:Same H1 H2):Same H H2:=fun c o h=>b c o (a c o h)
theorem Same.free {H H':Hp} (e:Same H H') {l:Addr} (h:H' l=Option.none):H l=Option.none:=by
 cases q:H l with
 | none=>rfl
 | some o=>
  rw [e l o q] at h
  cases h
theorem Same.seq {K:PySem.W.Frag} {H H':Hp} {a:Addr} {xs:List V} (e:Same H H') (h:SqL K H a xs):SqL K H' a xs:=by
 rcases h with (h | ⟨o,h⟩) | h
 ·exact .inl (.inl (e _ _ h))
 ·exact .inl (.inr ⟨o,e _ _ h⟩)
 ·exact .inr h
end L2
set_option maxHeartbeats 4000000
namespace L3
open PySem PySem.Spec PyProof.Rows L2
theorem same_upd {H:Hp} {p:Addr} {o:HO} (h:H p=none):Same H (upd H p o):=fun b u e=>by
 rw [upd_ne (ne_of_none e h)];exact e
theorem same_to {H H':Hp} {p:Addr} {o:HO} (s:Same H H') (h:H p=none):Same H (upd H' p o):=fun b u e=>by
 rw [upd_ne (ne_of_none e h)];exact s b u e
def newO:HO->Prop
 | .lst _=>True
 | .tup _=>True
 | _=>False
def Rst (H H':Hp) (P:Hp->Prop):Prop:=∃ Hr,Same H Hr/\Same Hr H'/\(∀ a o,Hr a=some o->H a=some o\/newO o)/\P Hr
theorem Rst.same {H H':Hp} {P:Hp->Prop} (s:Same H H') (p:P H):Rst H H' P:=⟨H,Same.refl H,s,fun _ _ e=>.inl e,p⟩
theorem Rst.one {H H':Hp} {P:Hp->Prop} {p:Addr} {o:HO} (s:Same H H') (n:H p=none) (e:H' p=some o) (no:newO o) (q:P (upd H p o)):Rst H H' P:=
 ⟨upd H p o,same_upd n,fun b u z=>by
  by_cases hb:b=p
  ·subst hb;rw [upd_same] at z;cases z;exact e
  ·rw [upd_ne hb] at z;exact s b u z,fun b u z=>by
  by_cases hb:b=p
  ·subst hb;rw [upd_same] at z;cases z;exact .inr no
  ·rw [upd_ne hb] at z;exact .inl z,q⟩
section
variable {P:Program} {w:World} {H Hr H':Hp} {h h':Heap}
theorem objOk_rst {a:Addr} {o:HO} (s1:Same H Hr) (x0:ObjOk P w H h a o) (x:ObjOk P w H' h' a o):ObjOk P w Hr h' a o:=by
 induction o with
 | ins C dx fs=>exact ⟨s1 _ _ x0.1,x.2⟩
 | frz ob u ih=>exact ⟨x.1,ih x0.2 x.2⟩
 | lst xs=>exact x
 | tup xs=>exact x
 | dK kvs=>exact x
 | dT kvs=>exact x
 | set S n=>exact x
 | own y=>exact x
 | xd fs=>exact x
 | rng lo hi=>exact x
 | tbl ps=>exact x
 | met f y=>exact x
 | ext φ=>exact x
theorem hok_rst (e0:HOk P w H h) (k:HOk P w H' h') (s1:Same H Hr) (s2:Same Hr H') (hn:∀ a o,Hr a=some o->H a=some o\/newO o):HOk P w Hr h':=fun a o e=>by
 have x:=k a o (s2 a o e)
 rcases hn a o e with z | z
 ·exact objOk_rst s1 (e0 a o z) x
 ·cases o with
  | lst xs=>exact x
  | tup xs=>exact x
  | _=>exact False.elim z
theorem un_rst {fs ex:List Addr} (u:Un fs ex H H' h h') (s1:Same H Hr) (s2:Same Hr H'):Un fs ex H Hr h h' where
 keep:=u.keep
 slot:=u.slot
 free:=fun b o e n hx=>s2.free (u.free b o e n hx)
 there:=u.there
 tups:=fun b xs e=>s1 b _ e
 frzs:=fun b o x e=>s1 b _ e
 tbls:=fun b ps e=>⟨#[],by rw [s1 b _ e];simp⟩
end
section
variable {P:Program} {w:World} {K:PySem.W.Frag} {mg:Str->Option Value} {base:Heap} {CX:CXT} {k:Nat} {f:Addr} {fd:FuncData} {ps:List Str} {sp:Sp}
def SpR (sp:Sp):Sp:=fun vs H Q2 E=>∃ Q:VK,(∀ v H',Rst H H' (Q v)->Q2 v H')/\sp vs H Q E
theorem FnOk.rst (F:FnOk P w K mg base CX k f fd ps (SpR sp)):FnOk P w K mg base CX k f fd ps sp:=
 ⟨fun vs H Q E h=>F.len vs H (fun v H'=>Rst H H' (Q v)) E ⟨Q,fun _ _ z=>z,h⟩,fun A outer s H args us vs Q E hr he hb hv hs=>
  codeAny_mono (F.run A outer s H args us vs (fun v H'=>Rst H H' (Q v)) E hr he hb hv ⟨Q,fun _ _ z=>z,hs⟩) fun r s' hq=>by
   cases r with
   | error e=>exact hq
   | ok fl=>
    cases fl with
    | ret u=>
     obtain ⟨v,H',e1,e2,e3,e4,e5,Hr,s1,s2,hn,q⟩:=hq
     exact ⟨v,Hr,e1,e2,un_rst e3 s1 s2,hok_rst he.hok e4 s1 s2 hn,e5,q⟩
    | next=>exact False.elim hq
    | brk=>exact False.elim hq
    | cont=>exact False.elim hq⟩
theorem Fun.okR {x qual:Str} {st:Stmt} {f:Addr} {fd:FuncData} {N ps:List Str} {k:Nat} {sp:Sp} (F:Fun K x qual st f fd) (S:FnScope N ps (defScope st)) (len:∀ vs H Q E,sp vs H Q E->vs.length=ps.length)
  (hbody:∀ (cdv:Value) (A:Around) (outer:List Env) (s:Shared) (H:Hp) (vs:List V) (Q Q2:VK) (E:XK),Room k (A.deeper (envOfC qual (defScope st) s.heap.objs.size f cdv))->sp vs H Q E->(∀ v H',Rst H H' (Q v)->Q2 v H') →
   ∃ t,PSs (cxOf CX0 P w K mg base N qual (defScope st) f cdv A outer s H E).nox (defBody st) t/\t { nx:=fun _ H'=>Q2 .non H',rt:=Q2 } (start N vs) H):FnOk P w K mg base CX0 (k+1) f fd ps sp:=
 FnOk.rst (F.ok S (fun vs H Q2 E ⟨Q,_,h⟩=>len vs H Q E h) fun cdv A outer s H vs Q2 E hr ⟨Q,hq,h⟩=>hbody cdv A outer s H vs Q Q2 E hr h hq)
end
end L3
namespace L3
open PySem PySem.Spec PyProof.Rows L2
abbrev NE:Value->Shared->Prop:=fun _ _=>False
def PTs (X:Cx) (cs:List Expr) (t:TT):Prop:=
 ∀ (pins:List (Addr × Obj)) (s:Shared) (σ:L2.St) (H:Hp) (Q:Bool->Hp->Prop),Inv X pins σ H s->t σ H Q →
  wpAny (model X.prog X.w) X.A (forIn cs true fun c r=>if r=true then do let ok <-isTrue c X.env (eval c X.env);pure (ForInStep.yield ok) else pure (ForInStep.yield r)) (TP X pins σ Q) X.xe s
def tYes:TT:=fun _ H Q=>Q true H
theorem pts_nil {X:Cx}:PTs X [] tYes:=fun _ _ _ H _ I h=>wpAny_tests_nil ⟨H,I,h⟩
theorem pts_one {X:Cx} {c:Expr} {t:TT} (h:PT X c t):PTs X [c] t:=fun pins s σ H Q I q=>wpAny_tests_one (h pins s σ H Q I q)
section
variable {prog:Program} {w:World} {A:Around} {R:Result->Shared->Prop} {s:Shared}
theorem compLoop_any {elt target iter:Expr} {ifs:List Expr} {scope:Scope} {pos:Pos} {it acc:Value} {env:Env} (I:Nat->Shared->Prop)
  (turn:∀ n s,I n s->wpAny (model prog w) A (pyNext it) (fun r s₁=>match r with
   | none=>R (.ok .next) s₁
   | some v=>wpAny (model prog w) A (letOwnedTupleGo target it v) (fun _ s₀=>wpAny (model prog w) A (assign target env v) (fun _ s₂=>
     wpAny (model prog w) A (forIn ifs true fun c r=>if r=true then do let ok <-isTrue c env (eval c env);pure (ForInStep.yield ok) else pure (ForInStep.yield r)) (fun ok s₃=>
      if ok=true then wpAny (model prog w) A (eval elt env) (fun x s₄=>
       wpAny (model prog w) A (call (.builtin "list.append") [acc,x]) (fun _ s₅=>∃ m,m < n/\I m s₅) NE s₄) NE s₃
      else ∃ m,m < n/\I m s₃) NE s₂) NE s₀) NE s₁) NE s)
  (n:Nat) (h:I n s) :
  codeAny (model prog w) A (.compLoop (.ListComp elt [⟨target,iter,ifs,0⟩] scope pos) 0 it acc env) R s:=by
 refine codeAny_loop rfl I (fun n s hI=>?_) n h
 show wpAny _ A ((compTurn (.ListComp elt [⟨target,iter,ifs,0⟩] scope pos) 0 it acc env).onRaise (fun x=>do noteFrame x env;theTreesLotGoes x)) _ _ s
 refine wpAny_noted (wpAny_mono (E:=NE) ?_ (fun _ _ q=>q) fun _ _ f=>f.elim)
 rw [compTurn_list]
 refine wpAny_bind (wpAny_standAt (wpAny_bind (wpAny_mono (turn n s hI) (fun r s₁ h₁=>?_) fun _ _ h'=>h')))
 cases r with
 | none=>exact wpAny_pure h₁
 | some v=>
  refine wpAny_bind (wpAny_mono h₁ (fun _ s₀ h₀=>?_) fun _ _ h'=>h')
  refine wpAny_bind (wpAny_mono h₀ (fun _ s₂ h₂=>wpAny_bind (wpAny_mono h₂ (fun ok s₃ h₃=>?_) fun _ _ h'=>h')) fun _ _ h'=>h')
  cases ok with
  | false=>exact wpAny_pure ⟨rfl,h₃⟩
  | true=>
   exact wpAny_bind (wpAny_bind (wpAny_mono h₃ (fun x s₄ h₄=>wpAny_bind (wpAny_mono h₄ (fun _ s₅ h₅=>wpAny_pure (wpAny_pure ⟨rfl,h₅⟩)) fun _ _ h'=>h')) fun _ _ h'=>h'))
end
theorem closure_go {env:Env}:∀ (names:List (Str × NameKind)) (cs:List (Str × Addr)),(∀ y ∈ names,y.2=.free->∃ c,env.cells.lookup y.1=some c)->(∀ x c,cs.lookup x=some c->env.cells.lookup x=some c) →
  ∃ cl,(forIn names cs (fun (y:Str × NameKind) r=>if (y.2 == .free)=true then do let a <-cellOf env y.1;pure (ForInStep.yield ((y.1,a) :: r)) else pure (ForInStep.yield r)):Sem (List (Str × Addr)))=pure cl ∧
   (∀ x c,cl.lookup x=some c->env.cells.lookup x=some c)/\(∀ x,(∃ c,cs.lookup x=some c)->∃ c,cl.lookup x=some c)/\(∀ y ∈ names,y.2=.free->∃ c,cl.lookup y.1=some c)
 | [],cs,_,h=>⟨cs,rfl,h,fun _ z=>z,fun _ z=>nomatch z⟩
 | y :: r,cs,hn,h=>by
  by_cases hy:y.2=.free
  ·obtain ⟨c,hc⟩:=hn y List.mem_cons_self hy
   have hc':cellOf env y.1=pure c:=by unfold cellOf;rw [hc]
   have h2:∀ x d,((y.1,c) :: cs).lookup x=some d->env.cells.lookup x=some d:=fun x d e=>by
    rw [List.lookup_cons] at e
    by_cases hx:x=y.1
    ·subst hx
     rw [show (y.1 == y.1)=true from beq_self_eq_true _] at e
     cases e
     exact hc
    ·rw [show (x == y.1)=false from beq_eq_false_iff_ne.mpr hx] at e
     exact h x d e
   obtain ⟨cl,e1,e2,e3,e4⟩:=closure_go r ((y.1,c) :: cs) (fun z hz=>hn z (List.mem_cons_of_mem _ hz)) h2
   refine ⟨cl,?_,e2,fun x hx=>e3 x ?_,fun z hz hf=>?_⟩
   ·rw [List.forIn_cons,hy,if_pos (by decide),hc']
    exact e1
   ·obtain ⟨d,hd⟩:=hx
    rw [List.lookup_cons]
    by_cases hx:x=y.1
    ·exact ⟨c,by rw [show (x == y.1)=true from beq_iff_eq.mpr hx]⟩
    ·exact ⟨d,by rw [show (x == y.1)=false from beq_eq_false_iff_ne.mpr hx];exact hd⟩
   ·rcases List.mem_cons.mp hz with rfl | hz
    ·exact e3 z.1 ⟨c,by rw [List.lookup_cons,show (z.1 == z.1)=true from beq_self_eq_true _]⟩
    ·exact e4 z hz hf
  ·obtain ⟨cl,e1,e2,e3,e4⟩:=closure_go r cs (fun z hz=>hn z (List.mem_cons_of_mem _ hz)) h
   refine ⟨cl,?_,e2,e3,fun z hz hf=>?_⟩
   ·rw [List.forIn_cons,if_neg (by intro q;exact hy (beq_iff_eq.mp q))]
    exact e1
   ·rcases List.mem_cons.mp hz with rfl | hz
    ·exact absurd hf hy
    ·exact e4 z hz hf
theorem closure_ok {scope:Scope} {env:Env} (hn:∀ y ∈ scope.names,y.2=.free->∃ c,env.cells.lookup y.1=some c) :
  ∃ cl,closureFor scope env=pure cl/\(∀ x c,cl.lookup x=some c->env.cells.lookup x=some c)/\(∀ y ∈ scope.names,y.2=.free->∃ c,cl.lookup y.1=some c):=by
 obtain ⟨cl,e1,e2,_,e4⟩:=closure_go (env:=env) scope.names [] hn (fun x c e=>by rw [List.lookup_nil] at e;cases e)
 refine ⟨cl,?_,e2,e4⟩
 unfold closureFor
 exact (congrArg (· >>= pure) e1)
theorem relabel_back {env:Env} {x:Str}:∀ {names:List (Str × NameKind)},(∀ y ∈ names,y.2 ≠ .cell) →
  ((names.map fun (n,k)=>if (k == NameKind.free && env.scope.kind == .function && env.kindOf n == some .cell) then (n,NameKind.cell) else (n,k)).lookup x=some .cell ∨
   (names.map fun (n,k)=>if (k == NameKind.free && env.scope.kind == .function && env.kindOf n == some .cell) then (n,NameKind.cell) else (n,k)).lookup x=some .free)->names.lookup x=some .free
 | [],_,h=>by rcases h with h | h <;> (rw [List.map_nil,List.lookup_nil] at h;cases h)
 | (n,k) :: r,hc,h=>by
  have ih:=relabel_back (env:=env) (x:=x) (names:=r) fun y hy=>hc y (List.mem_cons_of_mem _ hy)
  have hk:k ≠ .cell:=hc (n,k) List.mem_cons_self
  rw [List.map_cons] at h
  rw [List.lookup_cons]
  cases hx:x == n with
  | true=>
   dsimp only
   by_cases hq:(k == NameKind.free && env.scope.kind == .function && env.kindOf n == some .cell)=true
   ·rw [Bool.and_eq_true,Bool.and_eq_true] at hq
    rw [beq_iff_eq.mp hq.1.1]
   ·dsimp only at h
    rw [if_neg hq] at h
    rw [List.lookup_cons,hx] at h
    dsimp only at h
    rcases h with h | h
    ·exact absurd (Option.some.inj h) hk
    ·exact h
  | false=>
   dsimp only
   refine ih ?_
   dsimp only at h
   by_cases hq:(k == NameKind.free && env.scope.kind == .function && env.kindOf n == some .cell)=true
   ·rw [if_pos hq,List.lookup_cons,hx] at h
    exact h
   ·rw [if_neg hq,List.lookup_cons,hx] at h
    exact h
theorem mem_lookup {x:Str} {k:NameKind} {l:List (Str × NameKind)} (h:l.lookup x=some k):(x,k) ∈ l:=PySem.mem_of_lookup h
def comp (X:Cx) (Nc:List Str) (scope:Scope) (cl:List (Str × Addr)) (C:Addr) (s:Shared) (H:Hp) (fp:List Addr):Cx:=
 { X with N:=Nc,s₀:=s,H₀:=H,env:=compEnvC scope cl C X.env,outer:=X.stack,stack:=X.stack,ex:=fp,fn:=fun _=>false,pn:=[],xe:=fun _ _=>False }
def MapOk (X:Cx) (scope:Scope):List Str->List (Option Nat)->Prop
 | [],[]=>True
 | _ :: N,none :: m=>MapOk X scope N m
 | x :: N,some i :: m=>(X.N[i]?=some x/\(X.env.scope.names.lookup x=some .cell\/X.env.scope.names.lookup x=some .free)/\scope.names.lookup x=some .free)/\MapOk X scope N m
 | _,_=>False
theorem MapOk.len {X:Cx} {scope:Scope}:∀ {N:List Str} {m:List (Option Nat)},MapOk X scope N m->m.length=N.length
 | [],[],_=>rfl
 | _ :: N,none :: m,h=>congrArg (·+1) (MapOk.len (N:=N) (m:=m) h)
 | _ :: N,some _ :: m,h=>congrArg (·+1) (MapOk.len (N:=N) (m:=m) h.2)
 | [],_ :: _,h=>h.elim
 | _ :: _,[],h=>h.elim
theorem MapOk.at {X:Cx} {scope:Scope} {x:Str} {i:Nat}:∀ {N:List Str} {m:List (Option Nat)} {j:Nat},MapOk X scope N m->m[j]?=some (some i)->N[j]?=some x →
  X.N[i]?=some x/\(X.env.scope.names.lookup x=some .cell\/X.env.scope.names.lookup x=some .free)/\scope.names.lookup x=some .free
 | [],[],j,_,h,_=>by simp at h
 | _ :: N,none :: m,0,_,h,_=>by simp at h
 | _ :: N,none :: m,j+1,k,h,e=>MapOk.at (N:=N) (m:=m) (j:=j) k (by simpa using h) (by simpa using e)
 | y :: N,some i' :: m,0,k,h,e=>by
  simp at h e
  subst h;subst e
  exact k.1
 | _ :: N,some _ :: m,j+1,k,h,e=>MapOk.at (N:=N) (m:=m) (j:=j) k.2 (by simpa using h) (by simpa using e)
 | [],_ :: _,_,h,_,_=>h.elim
 | _ :: _,[],_,h,_,_=>h.elim
def mapS (m:List (Option Nat)) (σ:L2.St):L2.St:=m.map fun o=>o.bind fun i=>(σ[i]?).bind id
structure CompOk (X:Cx) (scope:Scope) (Nc:List Str) (mp:List (Option Nat)):Prop where
 kind:scope.kind=.function
 noc:∀ y ∈ scope.names,y.2 ≠ .cell
 loc:∀ y ∈ scope.names,y.2=.local->scope.names.lookup y.1=some .local
 fre:∀ y ∈ scope.names,y.2=.free->X.env.kindOf y.1=some .cell\/X.env.kindOf y.1=some .free
 map:MapOk X scope Nc mp
section
variable {X:Cx} {pins:List (Addr × Obj)} {σ:L2.St} {H:Hp} {s:Shared} {scope:Scope} {Nc:List Str} {mp:List (Option Nat)} {cl:List (Str × Addr)} {C:Addr} {fp:List Addr}
theorem comp_ok (I:Inv X pins σ H s) (S:CompOk X scope Nc mp) (h1:∀ x c,cl.lookup x=some c->X.env.cells.lookup x=some c) (h2:∀ y ∈ scope.names,y.2=.free->∃ c,cl.lookup y.1=some c)
  (hC:s.heap.objs.size<=C) (hf:∀ b ∈ fp,FpOk X pins H b) (ho:∀ b ∈ fp,b < s.heap.objs.size):(comp X Nc scope cl C s H fp).Ok where
 mod:=I.ok.mod
 kind:=S.kind
 glob:=I.ok.glob
 blt:=I.ok.blt
 above:=hC
 inj:=fun x y c e e'=>I.ok.inj x y c (h1 x c e) (h1 y c e')
 has:=fun x hx=>by
  have q:scope.names.lookup x=some .free:=relabel_back (env:=X.env) S.noc hx
  exact h2 (x,.free) (mem_lookup q) rfl
 cab:=fun x c hx=>absurd (show false=true from hx) Bool.false_ne_true
 hd:=I.ok.hd
 frames:=I.ok.frames
 stk:=.inl rfl
 exf:=fun b hb=>⟨fun z=>absurd (Nat.lt_of_lt_of_le (ho b hb) hC) (by rw [z];exact Nat.lt_irrefl _),fun x c e=>(hf b hb).2.2.2.2.1 x c (h1 x c e)⟩
 bs:=I.bs
 bsz:=Nat.le_trans I.ok.bsz I.sz
 noex:=fun b o e hb=>by
  rcases (hf b hb).2.2.2.1 with z | z
  ·exact I.ok.noex b o e z
  ·exact absurd (Nat.lt_of_lt_of_le (Heap.lt_size e) (Nat.le_trans I.ok.bsz z)) (Nat.lt_irrefl _)
 exfs:=fun b hb z=>by
  rcases List.mem_cons.mp (I.stkSub b z) with e | e
  ·exact (hf b hb).2.1 e
  ·exact (hf b hb).2.2.1 e
 funs:=I.stack
 frf:=I.stkFree
theorem comp_inv {h':Heap} {tk:Nat} {D:Addr} {oD:Obj} (I:Inv X pins σ H s) (S:CompOk X scope Nc mp) (h1:∀ x c,cl.lookup x=some c->X.env.cells.lookup x=some c) (h2:∀ y ∈ scope.names,y.2=.free->∃ c,cl.lookup y.1=some c)
  (hC:s.heap.objs.size<=C) (hf:∀ b ∈ fp,FpOk X pins H b) (ho:∀ b ∈ fp,b < s.heap.objs.size) (kp:∀ b o,s.heap.get? b=some o->h'.get? b=some o) {m:Str->Option Value} (hn:h'.Ns C m)
  (hD:s.heap.objs.size<=D) (hDC:D ≠ C) (eD:h'.get? D=some oD) (dD:∀ v,oD.data ≠ .cell v):Inv (comp X Nc scope cl C s H fp) [(D,oD)] (mapS mp σ) H { s with heap:=h',toks:=tk } where
 ok:=comp_ok I S h1 h2 hC hf ho
 os:=rfl
 bare:=I.bare
 base:=Un.kept kp
 loc:=by
  refine ⟨m,hn,fun j x v e1 e2 _=>?_⟩
  have hj:(mapS mp σ)[j]?=(mp[j]?).map fun o=>o.bind fun i=>(σ[i]?).bind id:=by unfold mapS;rw [List.getElem?_map]
  rw [hj] at e2
  cases e3:mp[j]? with
  | none=>rw [e3] at e2;cases e2
  | some o=>
   rw [e3] at e2
   cases o with
   | none=>cases e2
   | some i=>
    obtain ⟨k1,k2,k3⟩:=S.map.at e3 e1
    have e4:(σ[i]?).bind id=some v:=Option.some.inj e2
    have e5:σ[i]?=some (some v):=by
     cases q:σ[i]? with
     | none=>rw [q] at e4;cases e4
     | some z=>rw [q] at e4;exact congrArg some e4
    obtain ⟨m0,_,hl⟩:=I.loc
    obtain ⟨u,r,l⟩:=hl i x v k1 e5 (.inr k2)
    refine ⟨u,r,.inr ⟨?_,?_⟩⟩
    ·show (relabel scope X.env).names.lookup x=some .cell\/(relabel scope X.env).names.lookup x=some .free
     have go:∀ {names:List (Str × NameKind)},names.lookup x=some .free →
       ((names.map fun (n,k)=>if (k == NameKind.free && X.env.scope.kind == .function && X.env.kindOf n == some .cell) then (n,NameKind.cell) else (n,k)).lookup x=some .cell ∨
        (names.map fun (n,k)=>if (k == NameKind.free && X.env.scope.kind == .function && X.env.kindOf n == some .cell) then (n,NameKind.cell) else (n,k)).lookup x=some .free):=by
      intro names
      induction names with
      | nil=>intro q;rw [List.lookup_nil] at q;cases q
      | cons y r ih=>
       obtain ⟨n,k⟩:=y
       intro q
       rw [List.lookup_cons] at q
       rw [List.map_cons]
       dsimp only
       cases hx:x == n with
       | true=>
        rw [hx] at q
        cases q
        by_cases hq:(NameKind.free == NameKind.free && X.env.scope.kind == .function && X.env.kindOf n == some .cell)=true
        ·rw [if_pos hq,List.lookup_cons,hx];exact .inl rfl
        ·rw [if_neg hq,List.lookup_cons,hx];exact .inr rfl
       | false=>
        rw [hx] at q
        by_cases hq:(k == NameKind.free && X.env.scope.kind == .function && X.env.kindOf n == some .cell)=true
        ·rw [if_pos hq,List.lookup_cons,hx];exact ih q
        ·rw [if_neg hq,List.lookup_cons,hx];exact ih q
     exact go k3
    ·obtain ⟨c,hc⟩:=h2 (x,.free) (mem_lookup k3) rfl
     refine ⟨c,hc,?_⟩
     rcases l with ⟨lk,_⟩ | ⟨_,c',hc',oc,hoc,hd⟩
     ·have lk':X.env.scope.names.lookup x=some .local:=lk
      rcases k2 with k2 | k2 <;> (rw [lk'] at k2;cases k2)
     ·rw [h1 x c hc] at hc';cases hc'
      exact ⟨oc,kp _ _ hoc,hd⟩
 cell:=fun x c e=>by
  obtain ⟨v,o,ho',hd⟩:=I.cell x c (h1 x c e)
  exact ⟨v,o,kp _ _ ho',hd⟩
 free:=I.hok.fresh hC
 freeC:=fun x c e=>I.freeC x c (h1 x c e)
 pin:=fun p hp=>by
  have e:p=(D,oD):=by
   have hp':p ∈ ([]:List (Addr × Obj))++[(D,oD)]:=hp
   simpa using hp'
  subst e
  refine ⟨eD,I.hok.fresh hD,hDC,fun z=>?_,dD⟩
  rcases List.mem_cons.mp (I.stkSub D z) with e | e
  ·exact absurd (Nat.lt_of_lt_of_le I.lt hD) (by rw [e];exact Nat.lt_irrefl _)
  ·exact I.nofs hD e
 hok:=I.hok.kept kp
 len:=by unfold mapS;rw [List.length_map];exact S.map.len
theorem comp_out {σ':L2.St} {H':Hp} {s':Shared} {h':Heap} {D:Addr} {acc:List V} {its:List Value} {n:Nat} (I:Inv X pins σ H s) (hC:s.heap.objs.size<=C) (hD:s.heap.objs.size<=D) (hDC:D ≠ C) (hf:∀ b ∈ fp,FpOk X pins H b)
  (J:Inv (comp X Nc scope cl C s H fp) [(D,{ cls:=.type "list",data:=.seq its.toArray n })] σ' H' s') (hs:Heap.SameBut C s'.heap h') (hv:Vals acc its) (hz:acc.length<=sizeLine) :
  Inv X pins σ (upd H' D (.lst acc)) { s' with heap:=h' }/\H' D=none:=by
 obtain ⟨eD,nD,_,_,_⟩:=J.pin (D,{ cls:=.type "list",data:=.seq its.toArray n }) (List.mem_append_right _ List.mem_cons_self)
 have nD':H' D=none:=nD
 have u:Un (frs X.stack) fp H H' s.heap s'.heap:=J.base
 have neC:∀ b o,s.heap.get? b=some o->b ≠ C:=fun b o e=>Nat.ne_of_lt (Nat.lt_of_lt_of_le (Heap.lt_size e) hC)
 have neD:∀ b o,s.heap.get? b=some o->b ≠ D:=fun b o e=>Nat.ne_of_lt (Nat.lt_of_lt_of_le (Heap.lt_size e) hD)
 refine ⟨?_,nD'⟩
 refine I.call' (ch:=fp) (s':={ s' with heap:=h' }) J.os ⟨fun b o e nb hb hx=>?_,fun b o e nb hb hx=>?_,fun b o e nb hx=>?_,fun b o e hx=>?_,fun b xs e=>?_,fun b o xs e=>?_,fun b ps e=>?_⟩ (fun b o e=>?_) J.bare fun b hb=>⟨(hf b hb).2.2.2.1,(hf b hb).2.1,(hf b hb).2.2.2.2.1,(hf b hb).2.2.2.2.2⟩
 ·exact (hs.2 b (neC b o e)).trans (u.keep b o e nb hb hx)
 ·obtain ⟨sl,q⟩:=u.slot b o e nb hb hx
  exact ⟨sl,(hs.2 b (neC b o e)).trans q⟩
 ·rw [upd_ne (neD b o e)];exact u.free b o e nb hx
 ·obtain ⟨o',q⟩:=u.there b o e hx
  exact ⟨o',(hs.2 b (neC b o e)).trans q⟩
 ·have q:=u.tups b xs e
  rw [upd_ne (ne_of_none q nD')];exact q
 ·have q:=u.frzs b o xs e
  rw [upd_ne (ne_of_none q nD')];exact q
 ·obtain ⟨more,q⟩:=u.tbls b ps e
  exact ⟨more,by rw [upd_ne (ne_of_none q nD')];exact q⟩
 ·have freeC':H' C=none:=J.free
  by_cases hb:b=D
  ·subst hb
   rw [upd_same] at e;cases e
   exact ⟨hz,its,n,hv,(hs.2 _ hDC).trans eD⟩
  ·rw [upd_ne hb] at e
   refine (J.hok b o e).stay (fun c v hc q=>(hs.2 c ?_).trans q) (fun c q=>by rw [upd_ne (ne_of_none q nD')];exact q) fun c xs q=>by rw [upd_ne (ne_of_none q nD')];exact q
   rcases hc with z | z
   ·rw [z];exact ne_of_none e freeC'
   ·exact ne_of_none z freeC'
end
def wComp (J:It) (g:TG) (tt:TT) (te:TE) (Q:VK) (σ:L2.St) (H:Hp):Prop:=
 ∃ W:Nat->Nat->L2.St->List V->Hp->Prop,(∃ m,W 0 m σ [] H)/\∀ i m σ acc H,W i m σ acc H →
  (J.stop i H/\acc.length<=sizeLine/\∀ D,H D=none->Q (.ref D) (upd H D (.lst acc))) ∨
  (J.go i H/\∀ x H',J.yld i H x H'->g x σ H' fun σ2 H2=>tt σ2 H2 fun b H3=>if b=true then te σ2 H3 fun v H4=>acc.length < sizeLine/\∃ m',m' < m/\W (i+1) m' σ2 (acc++[v]) H4 else ∃ m',m' < m/\W (i+1) m' σ2 acc H3)
def tComp (mp:List (Option Nat)) (wi:TI) (g:TG) (tt:TT) (te:TE):TE:=fun σ H Q=>wi σ H fun J H1=>wComp J g tt te Q (mapS mp σ) H1
section
variable {X:Cx} {scope:Scope} {Nc:List Str} {mp:List (Option Nat)} {tg iter elt:Expr} {ifs:List Expr} {pos:Pos} {wi:TI} {g:TG} {tt:TT} {te:TE}
theorem comp_block {pins:List (Addr × Obj)} {σ:L2.St} {H:Hp} {s2:Shared} {it:Addr} {fp:List Addr} {tn:Nat->Heap->Prop} {J:It} {cl:List (Str × Addr)} {RR:Value->Addr->Result->Shared->Prop} {Q:VK}
  (hc:X.calm=true) (S:CompOk X scope Nc mp)
  (hb:∀ cl C s H fp,PG (comp X Nc scope cl C s H fp) tg g/\PTs (comp X Nc scope cl C s H fp) ifs tt/\PE (comp X Nc scope cl C s H fp) elt te)
  (h1:∀ x c,cl.lookup x=some c->X.env.cells.lookup x=some c) (h2:∀ y ∈ scope.names,y.2=.free->∃ c,cl.lookup y.1=some c)
  (I:Inv X pins σ H s2) (T:Turn X.prog X.w X.K tg J fp it tn) (st:tn 0 s2.heap) (hf:∀ b ∈ fp,FpOk X pins H b) (hw:wComp J g tt te Q (mapS mp σ) H)
  (hR:∀ D C s' H',s2.heap.objs.size<=C->s2.heap.objs.size<=D->D ≠ C->(∃ m,s'.heap.Ns C m)->(∀ h',Heap.SameBut C s'.heap h'->Inv X pins σ H' { s' with heap:=h' })->H' C=none->Q (.ref D) H'->RR (.ref D) C (.ok .next) s') :
  wpAny (model X.prog X.w) X.A (newList []) (fun acc s₃=>wpAny (model X.prog X.w) X.A (newFunctionEnv scope X.env.globals cl [] X.env.qual none .none (some X.env)) (fun cenv s₄=>
   codeAny (model X.prog X.w) X.A (.compStart (.ListComp elt [⟨tg,iter,ifs,0⟩] scope pos) 0 (.ref it) acc { cenv with scope:=relabel scope X.env }) (RR acc cenv.locals) s₄) X.xe s₃) X.xe s2:=by
 obtain ⟨W,⟨m0,w0⟩,turn⟩:=hw
 refine wpAny_newObj_type (wpAny_newFunctionEnv S.noc (by intro y hy;simp at hy) (fun h₁ hns₁ hsb₁=>?_) S.kind)
 dsimp only at hns₁ hsb₁ ⊢
 generalize hH2:s2.heap.push { cls:=.type "list",dict:=none,data:=.seq ([]:List Value).toArray }=H2 at hns₁ hsb₁ ⊢
 have hC:H2.objs.size=s2.heap.objs.size+1:=by rw [<-hH2,Heap.size_push]
 have hDC:s2.heap.objs.size ≠ H2.objs.size:=by rw [hC];exact Nat.ne_of_lt (Nat.lt_succ_self _)
 have hCle:s2.heap.objs.size<=H2.objs.size:=by rw [hC];exact Nat.le_succ _
 have below:∀ b,b < s2.heap.objs.size->b ≠ H2.objs.size:=fun b hb=>by rw [hC];exact Nat.ne_of_lt (Nat.lt_succ_of_lt hb)
 have old:∀ b o,s2.heap.get? b=some o->h₁.get? b=some o:=fun b o e=>hsb₁.extBut b o (below b (Heap.lt_size e)) (Heap.get?_push_of_some _ (hH2 ▸ Heap.get?_push_of_some _ e))
 have eD:h₁.get? s2.heap.objs.size=some { cls:=.type "list",data:=.seq ([]:List Value).toArray 0 }:=hsb₁.extBut _ _ hDC (Heap.get?_push_of_some _ (hH2 ▸ Heap.get?_push_size _ rfl))
 have ho:∀ b ∈ fp,b < s2.heap.objs.size:=fun b hb=>by
  obtain ⟨o,e,_⟩:=T.obj 0 _ st b hb
  exact Heap.lt_size e
 generalize hYd:comp X Nc scope cl H2.objs.size s2 H fp=Y
 have bodies:=hb cl H2.objs.size s2 H fp
 rw [hYd] at bodies
 obtain ⟨hg,htt,hte⟩:=bodies
 have I0:∀ tk,Inv Y [(s2.heap.objs.size,{ cls:=.type "list",data:=.seq ([]:List Value).toArray 0 })] (mapS mp σ) H { s2 with heap:=h₁,toks:=tk }:=fun tk=>by
  rw [<-hYd]
  exact comp_inv I S h1 h2 hCle hf ho old hns₁ (Nat.le_refl _) hDC eD fun v z=>by cases z
 have hYp:Y.prog=X.prog:=by rw [<-hYd];rfl
 have hYw:Y.w=X.w:=by rw [<-hYd];rfl
 have hYK:Y.K=X.K:=by rw [<-hYd];rfl
 have hYA:Y.A=X.A:=by rw [<-hYd];rfl
 have hYc:Y.calm=true:=by rw [<-hYd];exact hc
 have hYx:Y.xe=fun _ _=>False:=by rw [<-hYd];rfl
 have hYe:Y.env=compEnvC scope cl H2.objs.size X.env:=by rw [<-hYd];rfl
 have hYs:Y.s₀=s2:=by rw [<-hYd];rfl
 have hYex:Y.ex=fp:=by rw [<-hYd];rfl
 have hYpn:Y.pn=[]:=by rw [<-hYd];rfl
 have hYfs:Y.fs=frs X.stack:=by rw [<-hYd];rfl
 -- the iterator's objects,in the block
 have fpY:∀ {o:Obj} {H':Hp},(∀ b ∈ fp,H' b=none)->∀ b ∈ fp,FpOk Y [(s2.heap.objs.size,o)] H' b:=fun {o H'} hn b hb=>by
  refine ⟨hn b hb,?_,?_,.inl (by rw [hYex];exact hb),fun x c e=>?_,fun p hp=>?_⟩
  ·rw [hYe];exact below b (ho b hb)
  ·rw [hYfs]
   intro z
   rcases List.mem_cons.mp (I.stkSub b z) with e | e
   ·exact (hf b hb).2.1 e
   ·exact (hf b hb).2.2.1 e
  ·rw [hYe] at e
   exact (hf b hb).2.2.2.2.1 x c (h1 x c e)
  ·rw [hYpn] at hp
   have e:p=(s2.heap.objs.size,o):=by simpa using hp
   subst e
   exact Nat.ne_of_gt (ho b hb)
 have loop:∀ s₃:Shared,s₃={ s2 with heap:=h₁,toks:=s2.toks+([]:List (Str × Value)).length } →
   codeAny (model X.prog X.w) X.A (.compLoop (.ListComp elt [⟨tg,iter,ifs,0⟩] scope pos) 0 (.ref it) (.ref s2.heap.objs.size) (compEnvC scope cl H2.objs.size X.env))
    (RR (.ref s2.heap.objs.size) H2.objs.size) s₃:=by
  rintro s₃ rfl
  refine compLoop_any (fun n s'=>∃ i σ' H' acc its k,Inv Y [(s2.heap.objs.size,{ cls:=.type "list",data:=.seq its.toArray k })] σ' H' s'/\tn i s'.heap/\(∀ b ∈ fp,H' b=none)/\Vals acc its/\acc.length<=sizeLine/\W i n σ' acc H') ?_ m0
   ⟨0,mapS mp σ,H,[],[],0,I0 _,T.keep 0 _ _ st fun b _ o e=>old b o e,fun b hb=>(hf b hb).1,.nil,Nat.zero_le _,w0⟩
  rintro n s3 ⟨i,σ3,H3,acc,its,k,I3,st3,fr3,hv,hz,w3⟩
  rcases turn i n σ3 acc H3 w3 with ⟨stop,hzz,qn⟩ | ⟨go,step⟩
  ·have hd:=T.done Y hYp hYw hYK hYc i _ s3 σ3 H3 NE I3 (fpY fr3) st3 stop
   rw [hYA] at hd
   refine thn hd fun r s4 ⟨hr,I4⟩=>?_
   subst hr
   have I4':=I4
   rw [<-hYd] at I4'
   have nC:H3 H2.objs.size=none:=by
    have z:=I4.free
    rw [hYe] at z
    exact z
   obtain ⟨_,nD⟩:=comp_out I hCle (Nat.le_refl _) hDC hf I4' (Heap.SameBut.refl _ s4.heap) hv hzz
   refine hR _ _ s4 _ hCle (Nat.le_refl _) hDC ?_ (fun h' hs'=>(comp_out I hCle (Nat.le_refl _) hDC hf I4' hs' hv hzz).1) ?_ (qn _ nD)
   ·obtain ⟨m',hn',_⟩:=I4.loc
    rw [hYe] at hn'
    exact ⟨m',hn'⟩
   ·rw [upd_ne (Ne.symm hDC)];exact nC
  ·have hi:=T.item Y hYp hYw hYK hYc i _ s3 σ3 H3 NE I3 (fpY fr3) st3 go
   rw [hYA] at hi
   refine thn hi fun r s4 ⟨u,hr,h4⟩=>?_
   subst hr
   refine thn h4 fun _ s5 ⟨x,H5,I5,r5,y5,st5,fr5⟩=>?_
   have I5':=I5.pinned (fpY fr5) (T.obj _ _ st5)
   have ha:=hg _ s5 σ3 H5 x u _ I5' r5 (step x H5 y5)
   rw [hYp,hYw,hYA,hYe,hYx] at ha
   refine thn ha fun _ s6 ⟨σ6,H6,I6,q6⟩=>?_
   have ht:=htt _ s6 σ6 H6 _ I6 q6
   rw [hYp,hYw,hYA,hYe,hYx] at ht
   refine thn ht fun ok s7 ⟨H7,I7,q7⟩=>?_
   cases ok with
   | false=>
    have q7':∃ m',m' < n/\W (i+1) m' σ6 acc H7:=q7
    obtain ⟨m',hm,w7⟩:=q7'
    rw [if_neg Bool.false_ne_true]
    refine ⟨m',hm,i+1,σ6,H7,acc,its,k,I7.unpinned,T.keep _ _ _ st5 fun b hb o e=>(I7.pin (b,o) (List.mem_append_right _ (List.mem_append_right _ (mem_pinsAt hb e)))).1,fun b hb=>?_,hv,hz,w7⟩
    obtain ⟨o,e,d⟩:=T.obj _ _ st5 b hb
    exact (I7.pin (b,o) (List.mem_append_right _ (List.mem_append_right _ (mem_pinsAt hb e)))).2.1
   | true=>
    rw [if_pos rfl]
    have he:=hte _ s7 σ6 H7 _ I7 q7
    rw [hYp,hYw,hYA,hYe,hYx] at he
    refine thn he fun x4 s8 ⟨v,H8,I8,r8,hlt,m',hm,w8⟩=>?_
    have st8:tn (i+1) s8.heap:=T.keep _ _ _ st5 fun b hb o e=>(I8.pin (b,o) (List.mem_append_right _ (List.mem_append_right _ (mem_pinsAt hb e)))).1
    have fr8:∀ b ∈ fp,H8 b=none:=fun b hb=>by
     obtain ⟨o,e,d⟩:=T.obj _ _ st5 b hb
     exact (I8.pin (b,o) (List.mem_append_right _ (List.mem_append_right _ (mem_pinsAt hb e)))).2.1
    have I8':=I8.unpinned
    obtain ⟨e8,n8,ne8,nf8,_⟩:=I8'.pin (s2.heap.objs.size,{ cls:=.type "list",data:=.seq its.toArray k }) (List.mem_append_right _ List.mem_cons_self)
    refine wpAny_list_append_plain (items:=its.toArray) ⟨k,e8⟩ (fun h9 hl9 hs9=>?_) (by rw [List.size_toArray,<-hv.length];exact hz)
    obtain ⟨k9,e9⟩:=hl9
    have ep:its.toArray.push x4=(its++[x4]).toArray:=by simp
    rw [ep] at e9
    -- the list has turned
    have I9:Inv Y [] σ6 H8 { s8 with heap:=h9 }:=by
     refine (I8'.pins_of (pins':=[]) fun p hp=>nomatch hp).turned (t':=s8.toks) (it:=s2.heap.objs.size) (fun b o hb e=>(hs9.2 b hb).trans e) n8 ne8 (.inr (by rw [hYs];exact Nat.le_refl _)) (fun x c e z=>?_) fun p hp=>?_
     ·rw [hYe] at e
      obtain ⟨v',o',ho',_⟩:=I.cell x c (h1 x c e)
      exact absurd (Heap.lt_size ho') (by rw [z];exact Nat.lt_irrefl _)
     ·rw [hYpn] at hp
      exact absurd hp (by simp)
    refine ⟨m',hm,i+1,σ6,H8,acc++[v],its++[x4],k9,I9.pins_of fun p hp=>?_,?_,fr8,hv.append (.cons r8 .nil),?_,w8⟩
    ·have e:p=(s2.heap.objs.size,{ cls:=.type "list",data:=.seq (its++[x4]).toArray k9 }):=by simpa using hp
     subst e
     exact ⟨e9,n8,ne8,nf8,fun v z=>by cases z⟩
    ·exact T.keep _ _ _ st8 fun b hb o e=>(hs9.2 b (Nat.ne_of_lt (ho b hb))).trans e
    ·rw [List.length_append,List.length_singleton];omega
 have hself:=T.self X.A 0 { s2 with heap:=h₁,toks:=s2.toks+([]:List (Str × Value)).length } (fun it' s'=>codeAny (model X.prog X.w) X.A (.compLoop (.ListComp elt [⟨tg,iter,ifs,0⟩] scope pos) 0 it' (.ref s2.heap.objs.size) (compEnvC scope cl H2.objs.size X.env))
    (RR (.ref s2.heap.objs.size) H2.objs.size) s') (notedBy (model X.prog X.w) X.A (compEnvC scope cl H2.objs.size X.env) fun x s'=>RR (.ref s2.heap.objs.size) H2.objs.size (.error x) s') (T.keep 0 _ _ st fun b _ o e=>old b o e) (loop _ rfl)
 exact codeAny_compStart_list (loop _ rfl) hself
theorem clos_of (S:CompOk X scope Nc mp) {pins:List (Addr × Obj)} {σ:L2.St} {H:Hp} {s:Shared} (I:Inv X pins σ H s):∃ cl,closureFor scope X.env=pure cl/\(∀ x c,cl.lookup x=some c->X.env.cells.lookup x=some c)/\(∀ y ∈ scope.names,y.2=.free->∃ c,cl.lookup y.1=some c):=
 closure_ok fun y hy hf=>I.ok.has y.1 (S.fre y hy hf)
theorem pe_comp (hc:X.calm=true) (S:CompOk X scope Nc mp) (hi:PI X tg iter wi)
  (hb:∀ cl C s H fp,PG (comp X Nc scope cl C s H fp) tg g/\PTs (comp X Nc scope cl C s H fp) ifs tt/\PE (comp X Nc scope cl C s H fp) elt te)
  (hs:∀ x,foldedSetIterable iter X.env x=pure x:=by intro _;rfl):PE X (.ListComp elt [⟨tg,iter,ifs,0⟩] scope pos) (tComp mp wi g tt te):=by
 intro pins s σ H Q I h
 obtain ⟨cl,hcl,h1,h2⟩:=clos_of S I
 rw [eval_ListComp]
 refine wpAny_comprehension_free (use:=none) rfl hs hcl S.kind S.loc (thn (hi pins s σ H _ I h) fun v s1 hv=>thn hv fun itv s2 hq=>?_)
 obtain ⟨it,fp,tn,J,H2,e,I2,T,st2,f2,hw⟩:=hq
 subst e
 refine comp_block (RR:=fun acc C=>compPost (model X.prog X.w) X.A X.xe none (EP X pins σ Q) acc C) (Q:=Q) hc S hb h1 h2 I2 T st2 f2 hw fun D C s' H' hC hD hDC hm hI hn hq=>?_
 obtain ⟨m,hm⟩:=hm
 exact ⟨m,hm,fun h' hs'=>⟨.ref D,H',hI h' hs',rfl,hq⟩⟩
theorem ps_setC {i:Nat} {x:Str} {pos' spos:Pos} (hc:X.calm=true) (hN:X.N.Nodup) (hiN:X.N[i]?=some x) (hx:X.env.scope.names.lookup x=some .local) (S:CompOk X scope Nc mp) (hi:PI X tg iter wi)
  (hb:∀ cl C s H fp,PG (comp X Nc scope cl C s H fp) tg g/\PTs (comp X Nc scope cl C s H fp) ifs tt/\PE (comp X Nc scope cl C s H fp) elt te)
  (hsw:swapsWith (.ListComp elt [⟨tg,iter,ifs,0⟩] scope pos) (some (.Name x pos')) spos.line X.env=pure true:=by rfl)
  (hs:∀ x,foldedSetIterable iter X.env x=pure x:=by intro _;rfl):PS X (.Assign [.Name x pos'] (.ListComp elt [⟨tg,iter,ifs,0⟩] scope pos) spos) (tAsg (tComp mp wi g tt te) (gName i)):=by
 intro pins s σ H D I h
 obtain ⟨cl,hcl,h1,h2⟩:=clos_of S I
 rw [exec_Assign_Name_used _ _ _ _ hsw]
 refine wpAny_bind (wpAny_standAt (wpAny_bind ?_))
 show wpAny _ X.A (do let _ <-comprehension (.ListComp elt [⟨tg,iter,ifs,0⟩] scope pos) scope X.env _ (newList []) false (eval iter X.env) (some (assign (.Name x pos') X.env))) _ _ s
 refine wpAny_bind (wpAny_mono (wpAny_comprehension_free (use:=some (assign (.Name x pos') X.env)) (Q:=fun _ s'=>SP X pins D .next s') rfl hs hcl S.kind S.loc (thn (hi pins s σ H _ I h) fun v s1 hv=>thn hv fun itv s2 hq=>?_)) (fun _ s' hq=>wpAny_pure (wpAny_pure hq)) fun _ _ e=>e)
 obtain ⟨it,fp,tn,J,H2,e,I2,T,st2,f2,hw⟩:=hq
 subst e
 refine comp_block (RR:=fun acc C=>compPost (model X.prog X.w) X.A X.xe (some (assign (.Name x pos') X.env)) (fun _ s'=>SP X pins D .next s') acc C) (Q:=fun v H1=>D.nx (σ.set i (some v)) H1) hc S hb h1 h2 I2 T st2 f2 hw fun A C s' H' hC hD hDC hm hI hn hq=>?_
 obtain ⟨m,hm⟩:=hm
 show wpAny _ X.A (assign (.Name x pos') X.env (.ref A)) _ _ s'
 have I0:Inv X pins σ H' s':=hI s'.heap (Heap.SameBut.refl ..)
 have hLC:X.env.locals ≠ C:=Nat.ne_of_lt (Nat.lt_of_lt_of_le I2.lt hC)
 have hcC:∀ y c,X.env.cells.lookup y=some c->c ≠ C:=fun y c e z=>by
  obtain ⟨v,o,ho,_⟩:=I2.cell y c e
  exact absurd (Nat.lt_of_lt_of_le (Heap.lt_size ho) hC) (by rw [z];exact Nat.lt_irrefl _)
 refine wpAny_assign_Name (store_ok2 I0 hN hiN (.inl hx) (show RelV (.ref A) (.ref A) from rfl) (fun s6 I6 hch=>?_) (.inr hx))
 obtain ⟨a,hs6,ha⟩:=hch
 have hCa:C ≠ a:=by
  rcases ha with z | z
  ·rw [z];exact Ne.symm hLC
  ·exact Ne.symm (hcC x a z)
 refine ⟨m,hm.sameBut hs6 hCa,fun h' hs'=>?_⟩
 have I7:Inv X pins (σ.set i (some (.ref A))) H' { s6 with heap:=h' }:=I6.turned (t':=s6.toks) (it:=C) (fun b o hb e=>(hs'.2 b hb).trans e) hn (Ne.symm hLC) (.inr (Nat.le_trans I2.sz hC)) hcC fun p hp z=>by
  exact absurd (Nat.lt_of_lt_of_le (Heap.lt_size (I2.pin p hp).1) hC) (by rw [z];exact Nat.lt_irrefl _)
 exact ⟨_,H',I7,hq⟩
end
end L3
namespace L3
open PySem PySem.Spec PyProof.Rows L2
theorem bounds_gen (lo hi:Option Int) (n:Nat):sliceBounds lo hi none n=(((HT.sIx n 0 lo:Nat):Int),((HT.sIx n n hi:Nat):Int),1):=by
 have clip:∀ (v:Int),max 0 (min (if v < 0 then v+(n:Int) else v) (n:Int))=(((if v < 0 then (v+(n:Int)).toNat else min v.toNat n):Nat):Int):=fun v=>by
  by_cases hv:v < 0
  ·rw [if_pos hv,if_pos hv];omega
  ·rw [if_neg hv,if_neg hv];omega
 unfold sliceBounds
 refine Prod.ext ?_ (Prod.ext ?_ rfl)
 ·cases lo with
  | none=>rfl
  | some v=>exact clip v
 ·cases hi with
  | none=>rfl
  | some v=>exact clip v
theorem slicePick_cut (its:List Value) (lo hi:Option Int):slicePick its.toArray lo hi none=((its.drop (HT.sIx its.length 0 lo)).take (HT.sIx its.length its.length hi - HT.sIx its.length 0 lo)).toArray:=by
 unfold slicePick
 rw [bounds_gen,List.size_toArray]
 dsimp only
 rw [sliceRange_one,pick_run]
section
variable {X:Cx}
def rSlLs (K:PySem.W.Frag):V->Option Int->Option Int->Hp->VK->Prop:=fun x lo hi H Q=>∃ a xs,x=.ref a/\SqL K H a xs/\∀ p,H p=none->Q (.ref p) (upd H p (.lst (cutV xs lo hi)))
theorem sl_lst:SlR X (rSlLs X.K):=by
 intro pins s σ H x v vl vu lo hi sl Q I rx hs pl pu h
 obtain ⟨a,xs,rfl,hx,q⟩:=h
 cases rx
 obtain ⟨its,r,hp,hz⟩:=I.list hx
 refine ⟨"list",_,list_getitem_lookup,hp.isList.typeIs,?_⟩
 refine wpAny_getItem_list_slice hp.isList hs pl pu .none (by simp) ?_ (by rw [List.size_toArray,<-r.length];exact hz)
 rw [slicePick_cut,<-r.length]
 exact ⟨.ref _,_,I.lnew (t':=s.toks) ((r.drop _).take _) (Nat.le_trans (cutV_length xs lo hi) hz),rfl,q _ I.fresh⟩
theorem call_isi:CallR X (.builtin "isinstance") (fun xs H Q=>∃ x n t b,xs=[x,.ty n]/\TyOf X.K H x t/\PySem.W.kitOne X.K t (.type n)=some b/\Q (.bl b) H):=by
 intro pins s σ H xs us Q I r h
 obtain ⟨x,n,t,b,rfl,ty,e,q⟩:=h
 obtain ⟨u,u2,rfl,r1,r2⟩:=r.two
 cases r2
 exact isinst_ok I r1 ty e fun tk=>⟨.bl b,H,I.tok _,rfl,q⟩
end
end L3
namespace L3
open PySem PySem.Spec PyProof.Rows L2
def mapChk (sc:Scope) (N:List Str) (own:Scope):List Str->List (Option Nat)->Bool
 | [],[]=>true
 | _ :: r,none :: m=>mapChk sc N own r m
 | x :: r,some i :: m=>(N[i]? == some x && (sc.names.lookup x == some .cell || sc.names.lookup x == some .free) && own.names.lookup x == some .free) && mapChk sc N own r m
 | _,_=>false
def compChk (sc:Scope) (N:List Str) (own:Scope) (Nc:List Str) (mp:List (Option Nat)):Bool:=
 (own.kind == .function) && (own.names.all fun y=>y.2 != .cell) && (own.names.all fun y=>y.2 != .local || own.names.lookup y.1 == some .local) &&
 (own.names.all fun y=>y.2 != .free || (sc.names.lookup y.1 == some .cell || sc.names.lookup y.1 == some .free)) && mapChk sc N own Nc mp
theorem mapChk_ok {X:Cx} {own:Scope}:∀ {Nc:List Str} {mp:List (Option Nat)},mapChk X.env.scope X.N own Nc mp=true->MapOk X own Nc mp
 | [],[],_=>trivial
 | _ :: r,none :: m,h=>mapChk_ok (Nc:=r) (mp:=m) h
 | x :: r,some i :: m,h=>by
  unfold mapChk at h
  simp only [Bool.and_eq_true,Bool.or_eq_true,beq_iff_eq] at h
  exact ⟨⟨h.1.1.1,h.1.1.2,h.1.2⟩,mapChk_ok h.2⟩
 | [],_ :: _,h=>absurd (show false=true from h) Bool.false_ne_true
 | _ :: _,[],h=>absurd (show false=true from h) Bool.false_ne_true
theorem CompOk.of {X:Cx} {own:Scope} {Nc:List Str} {mp:List (Option Nat)} (h:compChk X.env.scope X.N own Nc mp=true):CompOk X own Nc mp:=by
 unfold compChk at h
 simp only [Bool.and_eq_true,List.all_eq_true,Bool.or_eq_true,beq_iff_eq,bne_iff_ne] at h
 obtain ⟨⟨⟨⟨h1,h2⟩,h3⟩,h4⟩,h5⟩:=h
 refine ⟨h1,h2,fun y hy e=>?_,fun y hy e=>?_,mapChk_ok h5⟩
 ·rcases h3 y hy with z | z
  ·exact absurd e z
  ·exact z
 ·rcases h4 y hy with z | z
  ·exact absurd e z
  ·exact z
structure Src (J:It) (H:Hp) (xs:List V):Prop where
 go:∀ i,i < xs.length->J.go i H
 yld:∀ i x H',i < xs.length->J.yld i H x H'->H'=H/\xs[i]?=some x
 stop:∀ i,xs.length<=i->J.stop i H
theorem src_range (lo:Int) (n:Nat) (H:Hp):Src (Itr lo n) H ((List.range n).map fun i=>V.int (lo+(i:Nat))) where
 go:=fun i h=>by
  rw [List.length_map,List.length_range] at h
  exact h
 yld:=fun i x H' hi h=>by
  obtain ⟨e,rfl⟩:=h
  rw [List.length_map,List.length_range] at hi
  exact ⟨e,by rw [List.getElem?_map,List.getElem?_range hi];rfl⟩
 stop:=fun i h=>by
  rw [List.length_map,List.length_range] at h
  exact h
theorem src_list {K:PySem.W.Frag} {H:Hp} {a:Addr} {xs:List V} (h:SqL K H a xs):Src (Itl K a) H xs where
 go:=fun i hi=>⟨xs,xs[i],h,by simp [hi]⟩
 yld:=fun i x H' _ q=>⟨q.1,q.2 xs h⟩
 stop:=fun i hi=>⟨xs,h,hi⟩
theorem src_tup {K:PySem.W.Frag} {H:Hp} {a:Addr} {xs:List V} (h:SqT K H a xs):Src (Itt K a) H xs where
 go:=fun i hi=>⟨xs,xs[i],h,by simp [hi]⟩
 yld:=fun i x H' _ q=>⟨q.1,q.2 xs h⟩
 stop:=fun i hi=>⟨xs,h,hi⟩
theorem comp_pure {α:Type} {J:It} {H:Hp} {as:List α} {v:α->V} (f:α->Bool) (e:α->V) {tt:TT} {te:TE} {Q:VK} {rest:L2.St} (S:Src J H (as.map v)) (hz:as.length<=sizeLine)
  (ht:∀ a ∈ as,∀ k:Bool->Hp->Prop,k (f a) H->tt (some (v a) :: rest) H k) (he:∀ a ∈ as,f a=true->∀ k:VK,k (e a) H->te (some (v a) :: rest) H k)
  (hq:∀ D,H D=none->Q (.ref D) (upd H D (.lst ((as.filter f).map e)))):wComp J (gName 0) tt te Q (none :: rest) H:=by
 refine ⟨fun i m σ acc H'=>H'=H/\i<=as.length/\m=as.length - i/\acc=((as.take i).filter f).map e/\∃ o,σ=o :: rest,⟨as.length,rfl,Nat.zero_le _,rfl,by simp,none,rfl⟩,?_⟩
 rintro i m σ acc H' ⟨rfl,hi,rfl,rfl,o,rfl⟩
 have hacc:(((as.take i).filter f).map e).length<=i:=by
  rw [List.length_map]
  exact Nat.le_trans (List.length_filter_le _ _) (by rw [List.length_take];exact Nat.min_le_left _ _)
 by_cases hlt:i < as.length
 ·refine .inr ⟨S.go i (by rw [List.length_map];exact hlt),fun x H1 y=>?_⟩
  obtain ⟨rfl,hx⟩:=S.yld i x H1 (by rw [List.length_map];exact hlt) y
  rw [List.getElem?_map,List.getElem?_eq_getElem hlt] at hx
  have hx':v as[i]=x:=Option.some.inj hx
  subst hx'
  have hm:as[i] ∈ as:=List.getElem_mem hlt
  have ts:as.take (i+1)=as.take i++[as[i]]:=List.take_succ_eq_append_getElem hlt
  show tt (some (v as[i]) :: rest) H1 _
  refine ht _ hm _ ?_
  cases hf:f as[i] with
  | true=>
   rw [if_pos rfl]
   refine he _ hm hf _ ⟨by omega,as.length - (i+1),by omega,rfl,hlt,rfl,?_,_,rfl⟩
   rw [ts,List.filter_append,List.map_append,List.filter_cons_of_pos hf]
   rfl
  | false=>
   rw [if_neg Bool.false_ne_true]
   refine ⟨as.length - (i+1),by omega,rfl,hlt,rfl,?_,_,rfl⟩
   rw [ts,List.filter_append,List.filter_cons_of_neg (by rw [hf];exact Bool.false_ne_true)]
   simp
 ·have ei:i=as.length:=by omega
  subst ei
  refine .inl ⟨S.stop _ (by rw [List.length_map];exact Nat.le_refl _),by omega,fun D hD=>?_⟩
  rw [List.take_length]
  exact hq D hD
theorem comp_map {α:Type} {J:It} {H:Hp} {as:List α} {v:α->V} (e:α->V) {te:TE} {Q:VK} {rest:L2.St} (S:Src J H (as.map v)) (hz:as.length<=sizeLine)
  (he:∀ a ∈ as,∀ k:VK,k (e a) H->te (some (v a) :: rest) H k)
  (hq:∀ D,H D=none->Q (.ref D) (upd H D (.lst (as.map e)))):wComp J (gName 0) tYes te Q (none :: rest) H:=
 comp_pure (fun _=>true) e S hz (fun a _ k hk=>hk) (fun a ha _ k hk=>he a ha k hk) fun D hD=>by
  have e1:as.filter (fun _=>true)=as:=by simp
  rw [e1];exact hq D hD
section
variable {X:Cx} {st:Stmt} {t:TS}
def tMid (t:TS):TS:=fun D σ H=>∃ M:L2.St->Hp->Prop,t { D with nx:=M } σ H/\∀ σ' H',M σ' H'->D.nx σ' H'
theorem ps_mid (h:PS X st t):PS X st (tMid t):=by
 intro pins s σ H D I hw
 obtain ⟨M,h1,h2⟩:=hw
 refine thn (h pins s σ H { D with nx:=M } I h1) fun f s' q=>?_
 cases f with
 | next=>
  obtain ⟨σ',H',I',m⟩:=q
  exact ⟨σ',H',I',h2 _ _ m⟩
 | ret v=>exact q
 | brk=>exact q
 | cont=>exact q
end
theorem szl:(sizeLine:Nat)=16777216:=sizeLine_eq
theorem few {n:Nat} (h:n<=100000):n<=sizeLine:=by rw [szl];omega
theorem fewer {n:Nat} (h:n<=100000):n < sizeLine:=by rw [szl];omega
end L3
namespace Vm
open PySem L2 L3
def Al (c:Nat):Prop:=97<=c/\c<=122
structure Good (z:Str):Prop where
 lo:1<=z.length
 hi:z.length<=12
 al:∀ c ∈ z.cps.toList,Al c
def letters:Str := "abcdefghijklmnopqrstuvwxyz"
theorem letters_cps:letters.cps.toList=(List.range 26).map (97+·):=by decide +kernel
theorem clen (z:Str):z.cps.toList.length=z.length:=by simp [Str.length]
theorem Good.small {z:Str} (g:Good z):z.length<=sizeLine:=few (by have:=g.hi;omega)
def placesB (a b:List Nat):List Nat:=(List.range a.length).filter fun i=>!decide (a[i]?=b[i]?)
def alikeB (a b:List Nat):Bool:=if a.length=b.length then decide ((placesB a b).length=1) else false
theorem al_mod (n:Nat) (h:n < 26):Al (97+n):=by unfold Al;omega
theorem app_list (a b:Str):(a++b).cps.toList=a.cps.toList++b.cps.toList:=by
 show (a.cps++b.cps).toList=_
 simp
theorem app_len (a b:Str):(a++b).length=a.length+b.length:=by
 show (a.cps++b.cps).size=_
 rw [Array.size_append];rfl
end Vm
namespace L3
open PySem PySem.Spec PyProof.Rows L2
open Builtin Builtin.Str
section
variable {X:Cx}
end
end L3
namespace Vm
open PySem L2 L3
end Vm
namespace L3
open PySem PySem.Spec PyProof.Rows L2
section
variable {M:Model} {A:Around} {E:Value->Shared->Prop} {s:Shared}
end
section
variable {M:Model} {A:Around} {E:Value->Shared->Prop}
end
section
variable {P:Program} {w:World} {H H':Hp} {h h1 h2:Heap} {fs fs' S ex:List Addr}
end
section
variable {X:Cx} {pins:List (Addr × Obj)} {σ:L2.St} {H:Hp} {s:Shared} {S:List Addr}
end
section
variable {P:Program} {w:World} {K:PySem.W.Frag} {mg:Str->Option Value} {base:Heap} {N:List Str} {qual:Str} {scope:Scope} {f:Addr} {cd:Value} {A:Around} {outer:List Env} {s0:Shared} {H0:Hp} {E:XK}
end
section
variable {X:Cx} {x:Str} {C:Addr} {a:Expr} {ta:TE} {E:XK} {np cpos pos:Pos}
end
section
variable {X:Cx} {pins:List (Addr × Obj)} {σ:L2.St} {H:Hp} {s:Shared} {ea:Addr}
end
section
variable {X:Cx} {CX:CXT} {k:Nat} {f:Addr} {fd:FuncData} {ps:List Str} {sp:Sp} {fx x n c:Str} {e:Expr} {es:List Expr} {ta:TA} {p pos:Pos}
end
end L3
namespace L3
open PySem PySem.Spec PyProof.Rows L2
def EqQ (K:PySem.W.Frag) (H:Hp):Nat->V->V->Bool->Prop
 | 0,x,y,b=>flatV x=true/\flatV y=true/\b=eqV x y
 | n+1,x,y,b=>EqQ K H n x y b\/∃ (p r:Addr) (xs ys:List V) (e:Nat->Bool),x=.ref p/\y=.ref r/\((SqL K H p xs/\SqL K H r ys)\/(SqT K H p xs/\SqT K H r ys)) ∧
   (∀ (i:Nat) (x y:V),xs[i]?=some x->ys[i]?=some y->EqQ K H n x y (e i))/\b=(decide (xs.length=ys.length) && (List.range xs.length).all e)
def EqS (K:PySem.W.Frag) (H:Hp) (n:Nat) (x y:V) (b:Bool):Prop:=∃ (p r:Addr) (xs ys:List V) (e:Nat->Bool),x=.ref p/\y=.ref r/\((SqL K H p xs/\SqL K H r ys)\/(SqT K H p xs/\SqT K H r ys)) ∧
   (∀ (i:Nat) (x y:V),xs[i]?=some x->ys[i]?=some y->EqQ K H n x y (e i))/\b=(decide (xs.length=ys.length) && (List.range xs.length).all e)
theorem EqS.q {K:PySem.W.Frag} {H:Hp} {n:Nat} {x y:V} {b:Bool} (h:EqS K H n x y b):EqQ K H (n+1) x y b:=.inr h
theorem eqV_self {x:V} (h:flatV x=true):eqV x x=true:=by
 cases x with
 | non=>rfl
 | bl b=>show (b == b)=true;simp
 | int b=>show (b == b)=true;simp
 | str b=>show (b == b)=true;simp
 | _=>exact absurd (show false=true from h) Bool.false_ne_true
theorem EqS.strs {K:PySem.W.Frag} {H:Hp} {p r:Addr} {xs ys:List Str} (h:(SqL K H p (xs.map V.str)/\SqL K H r (ys.map V.str))\/(SqT K H p (xs.map V.str)/\SqT K H r (ys.map V.str))):EqS K H 0 (.ref p) (.ref r) (decide (xs=ys)):=by
 refine ⟨p,r,_,_,fun i=>decide (xs[i]?=ys[i]?),rfl,rfl,h,fun i x y hx hy=>?_,?_⟩
 ·rw [List.getElem?_map] at hx hy
  cases ex:xs[i]? with
  | none=>rw [ex] at hx;cases hx
  | some a=>
   cases ey:ys[i]? with
   | none=>rw [ey] at hy;cases hy
   | some b=>
    rw [ex] at hx;rw [ey] at hy
    cases hx;cases hy
    refine ⟨rfl,rfl,?_⟩
    show _=(a == b)
    rw [Bool.eq_iff_iff,decide_eq_true_eq,ex,ey];simp
 ·rw [List.length_map,List.length_map,Bool.eq_iff_iff,decide_eq_true_eq,Bool.and_eq_true,decide_eq_true_eq,List.all_eq_true]
  constructor
  ·rintro rfl
   exact ⟨rfl,fun i _=>decide_eq_true rfl⟩
  ·rintro ⟨hl,ha⟩
   refine List.ext_getElem? fun i=>?_
   by_cases hi:i < xs.length
   ·exact of_decide_eq_true (ha i (List.mem_range.mpr hi))
   ·rw [List.getElem?_eq_none (by omega),List.getElem?_eq_none (by omega)]
section
variable {X:Cx} {pins:List (Addr × Obj)} {σ:L2.St} {H:Hp} {s:Shared}
theorem eqq_self (I:Inv X pins σ H s):∀ {n:Nat} {x:V} {b:Bool},EqQ X.K H n x x b->b=true
 | 0,x,b,h=>by
  obtain ⟨h1,_,e⟩:=h
  rw [e];exact eqV_self h1
 | n+1,x,b,h=>by
  rcases h with h | ⟨p,r,xs,ys,e,e1,e2,hq,he,rfl⟩
  ·exact eqq_self I h
  ·rw [e1] at e2;cases e2
   have exy:xs=ys:=by
    rcases hq with ⟨a,c⟩ | ⟨a,c⟩
    ·exact I.list_inj a c
    ·exact I.tuple_inj a c
   subst exy
   rw [decide_eq_true rfl,Bool.true_and,List.all_eq_true]
   intro i hi
   have hlt:=List.mem_range.mp hi
   exact eqq_self I (he i xs[i] xs[i] (List.getElem?_eq_getElem hlt) (List.getElem?_eq_getElem hlt))
theorem vals_at {xs:List V} {us:List Value} (r:Vals xs us) {j:Nat} (h:j < us.length):∃ x,xs[j]?=some x/\RelV x us[j]:=by
 have hx:j < xs.length:=by rw [r.length];exact h
 obtain ⟨u,e,q⟩:=r.get (List.getElem?_eq_getElem hx)
 rw [List.getElem?_eq_getElem h] at e
 cases e
 exact ⟨_,List.getElem?_eq_getElem hx,q⟩
theorem rng_min {a b:Nat} {e:Nat->Bool}:((List.range (min a b)).all e && a == b)=(decide (a=b) && (List.range a).all e):=by
 by_cases h:a=b
 ·subst h;simp
 ·simp [h]
theorem eqs_rc {n:Nat} {A:Around} (I:Inv X pins σ H s) (hu:A.units+1 < cLine) (ih:∀ (x y:V) (b:Bool) (u v:Value),RelV x u->RelV y v->EqQ X.K H n x y b->SeqAt.EqAt A.in1 s u v b)
  {p r:Addr} {xs ys:List V} {e:Nat->Bool} (hq:(SqL X.K H p xs/\SqL X.K H r ys)\/(SqT X.K H p xs/\SqT X.K H r ys)) (he:∀ (i:Nat) (x y:V),xs[i]?=some x->ys[i]?=some y->EqQ X.K H n x y (e i)) :
  SeqAt.RcAt A s (.ref p) (.ref r) (decide (xs.length=ys.length) && (List.range xs.length).all e):=by
 have hu':A.units < cLine:=by omega
 rcases hq with ⟨a,c⟩ | ⟨a,c⟩
 ·obtain ⟨is,r1,p1,z1⟩:=I.list a
  obtain ⟨js,r2,p2,z2⟩:=I.list c
  have l1:=r1.length
  have l2:=r2.length
  by_cases hl:xs.length=ys.length
  ·rw [decide_eq_true hl,Bool.true_and]
   have q:=SeqAt.RcAt.lists (e:=e) p1.isList p2.isList (by rw [List.size_toArray,List.size_toArray];omega) hu' fun j h1 h2=>by
    rw [List.size_toArray] at h1 h2
    obtain ⟨x,ex,rx⟩:=vals_at r1 h1
    obtain ⟨y,ey,ry⟩:=vals_at r2 h2
    rw [List.getElem_toArray,List.getElem_toArray]
    exact ih x y _ _ _ rx ry (he j x y ex ey)
   rw [List.size_toArray,<-l1] at q
   exact q
  ·rw [decide_eq_false hl,Bool.false_and]
   exact SeqAt.RcAt.lists_lengths p1.isList p2.isList (by rw [List.size_toArray,List.size_toArray];simp;omega) hu'
 ·obtain ⟨is,r1,p1,z1⟩:=I.tuple a
  obtain ⟨js,r2,p2,z2⟩:=I.tuple c
  have l1:=r1.length
  have l2:=r2.length
  have q:=SeqAt.RcAt.tuples (e:=e) p1 p2 hu' fun j h1 h2=>by
   rw [List.size_toArray] at h1 h2
   obtain ⟨x,ex,rx⟩:=vals_at r1 h1
   obtain ⟨y,ey,ry⟩:=vals_at r2 h2
   rw [List.getElem_toArray,List.getElem_toArray]
   exact ih x y _ _ _ rx ry (he j x y ex ey)
  rw [List.size_toArray,List.size_toArray,<-l1,<-l2,rng_min] at q
  exact q
theorem eqs_ne {n:Nat} {A:Around} (I:Inv X pins σ H s) (hu:A.units+1 < cLine) (ih:∀ (x y:V) (b:Bool) (u v:Value),RelV x u->RelV y v->EqQ X.K H n x y b->SeqAt.EqAt A.in1 s u v b)
  {p r:Addr} {xs ys:List V} {e:Nat->Bool} (hq:(SqL X.K H p xs/\SqL X.K H r ys)\/(SqT X.K H p xs/\SqT X.K H r ys)) (he:∀ (i:Nat) (x y:V),xs[i]?=some x->ys[i]?=some y->EqQ X.K H n x y (e i)) :
  SeqAt.RcNeAt A s (.ref p) (.ref r) (!(decide (xs.length=ys.length) && (List.range xs.length).all e)):=by
 have hu':A.units < cLine:=by omega
 rcases hq with ⟨a,c⟩ | ⟨a,c⟩
 ·obtain ⟨is,r1,p1,z1⟩:=I.list a
  obtain ⟨js,r2,p2,z2⟩:=I.list c
  have l1:=r1.length
  have l2:=r2.length
  by_cases hl:xs.length=ys.length
  ·rw [decide_eq_true hl,Bool.true_and]
   have q:=SeqAt.RcNeAt.lists (e:=e) p1.isList p2.isList (by rw [List.size_toArray,List.size_toArray];omega) hu' fun j h1 h2=>by
    rw [List.size_toArray] at h1 h2
    obtain ⟨x,ex,rx⟩:=vals_at r1 h1
    obtain ⟨y,ey,ry⟩:=vals_at r2 h2
    rw [List.getElem_toArray,List.getElem_toArray]
    exact ih x y _ _ _ rx ry (he j x y ex ey)
   rw [List.size_toArray,<-l1] at q
   exact q
  ·rw [decide_eq_false hl,Bool.false_and]
   exact SeqAt.RcNeAt.lists_lengths p1.isList p2.isList (by rw [List.size_toArray,List.size_toArray];simp;omega) hu'
 ·obtain ⟨is,r1,p1,z1⟩:=I.tuple a
  obtain ⟨js,r2,p2,z2⟩:=I.tuple c
  have l1:=r1.length
  have l2:=r2.length
  have q:=SeqAt.RcNeAt.tuples (e:=e) p1 p2 hu' fun j h1 h2=>by
   rw [List.size_toArray] at h1 h2
   obtain ⟨x,ex,rx⟩:=vals_at r1 h1
   obtain ⟨y,ey,ry⟩:=vals_at r2 h2
   rw [List.getElem_toArray,List.getElem_toArray]
   exact ih x y _ _ _ rx ry (he j x y ex ey)
  rw [List.size_toArray,List.size_toArray,<-l1,<-l2,rng_min] at q
  exact q
theorem eqq_at (I:Inv X pins σ H s):∀ {n:Nat} {A:Around} {x y:V} {b:Bool} {u v:Value},A.units+n < cLine->RelV x u->RelV y v->EqQ X.K H n x y b->SeqAt.EqAt A s u v b
 | 0,A,x,y,b,u,v,hu,rx,ry,h=>by
  obtain ⟨h1,h2,e⟩:=h
  rw [e];exact eqAt_V rx ry h1 h2
 | n+1,A,x,y,b,u,v,hu,rx,ry,h=>by
  rcases h with h | ⟨p,r,xs,ys,e,rfl,rfl,hq,he,hb⟩
  ·exact eqq_at I (by omega) rx ry h
  ·cases rx;cases ry
   by_cases hp:p=r
   ·subst hp
    have:=eqq_self I (n:=n+1) (.inr ⟨p,p,xs,ys,e,rfl,rfl,hq,he,hb⟩)
    rw [this];exact SeqAt.EqAt.same _
   ·rw [hb]
    exact SeqAt.EqAt.of_refs hp (eqs_rc I (by omega) (fun x y b u v rx ry q=>eqq_at I (A:=A.in1) (by show A.units+1+n < cLine;omega) rx ry q) hq he)
theorem op_eqS (hu:X.A.units+64 < cLine):OpR X (compareOp .Eq) (fun x y H Q=>∃ n b,n<=20/\EqS X.K H n x y b/\Q (.bl b) H):=by
 intro pins s σ H x y v u Q I rx ry h
 obtain ⟨n,b,hn,⟨p,r,xs,ys,e,rfl,rfl,hq,he,rfl⟩,q⟩:=h
 cases rx;cases ry
 exact eqs_rc I (by omega) (fun x y b u v rx ry q=>eqq_at I (A:=X.A.in1) (by show X.A.units+1+n < cLine;omega) rx ry q) hq he _ _ _ _ ⟨.bl _,H,I,rfl,q⟩
theorem op_neS (hu:X.A.units+64 < cLine):OpR X (compareOp .NotEq) (fun x y H Q=>∃ n b,n<=20/\EqS X.K H n x y b/\Q (.bl (!b)) H):=by
 intro pins s σ H x y v u Q I rx ry h
 obtain ⟨n,b,hn,⟨p,r,xs,ys,e,rfl,rfl,hq,he,rfl⟩,q⟩:=h
 cases rx;cases ry
 exact eqs_ne I (by omega) (fun x y b u v rx ry q=>eqq_at I (A:=X.A.in1) (by show X.A.units+1+n < cLine;omega) rx ry q) hq he _ _ _ _ ⟨.bl _,H,I,rfl,q⟩
end
end L3
namespace L3
open PySem PySem.Spec PyProof.Rows L2 PySem.W
section
variable {M:Model} {A:Around} {E:Value->Shared->Prop} {s:Shared}
end
section
variable {prog:Program} {w:World} {A:Around} {E:Value->Shared->Prop} {s:Shared} {K:PySem.W.Frag} {x D:Addr} {ox:Obj}
end
end L3
namespace L3
open PySem PySem.Spec PyProof.Rows L2
open PySem.W in
section
variable {X:Cx}
end
section
variable {X:Cx} {K:PySem.W.Frag}
theorem ix_listK (hK:X.K=K):IxR X (rIxL K):=by subst hK;exact ix_list
theorem ix_tupK (hK:X.K=K):IxR X (rIxT K):=by subst hK;exact ix_tup
theorem call_len_seqK (hK:X.K=K):CallR X (.builtin "len") (fun xs H Q=>∃ p ys,xs=[.ref p]/\(SqL K H p ys\/SqT K H p ys)/\Q (.int ys.length) H):=by subst hK;exact call_len_seq
end
end L3
namespace Vm
open PySem PySem.Spec PyProof.Rows L2 L3
theorem cut_any (ns:List Int) (lo hi:Option Int):∃ ms:List Int,cutV (ns.map V.int) lo hi=ms.map V.int/\ms.length<=ns.length/\∀ m ∈ ms,m ∈ ns:=by
 unfold cutV
 refine ⟨(ns.drop (HT.sIx (ns.map V.int).length 0 lo)).take (HT.sIx (ns.map V.int).length (ns.map V.int).length hi - HT.sIx (ns.map V.int).length 0 lo),?_,?_,fun m hm=>List.mem_of_mem_drop (List.mem_of_mem_take hm)⟩
 ·rw [List.map_take,List.map_drop]
 ·rw [List.length_take,List.length_drop];omega
theorem ixN_last (n:Nat):ixN (n+1) (-1)=some n:=by
 unfold ixN
 rw [if_neg (by omega),if_pos (by omega)]
 congr 1
 omega
theorem set_last {α:Type} (xs:List α) (a b:α):(xs++[a]).set xs.length b=xs++[b]:=by simp
end Vm
namespace L3
open PySem PySem.Spec PyProof.Rows L2
section
variable {X:Cx}
end
end L3
namespace Vm
open PySem PySem.Spec PyProof.Rows L2 L3 PySem.NumText
end Vm
namespace HT
open PySem PySem.Spec PyProof.Rows
section
variable {prog:Program} {w:World} {A:Around} {E:Value->Shared->Prop} {s:Shared}
theorem cut_whole {t sl:Addr} {items:Array Value} {vl vu:Value} {lo hi:Option Int} {Q:Value->Shared->Prop} (ht:IsTup s.heap t items) (hs:s.heap.IsSliceOf sl vl vu .none) (pl:IsPart vl lo) (pu:IsPart vu hi)
  (hw:sIx items.size 0 lo=0/\sIx items.size items.size hi=items.size) (h:Q (.ref t) s):wpAny (model prog w) A (getItem (.ref t) (.ref sl)) Q E s:=by
 obtain ⟨os,hos,hcs,hds⟩:=id hs
 have hTs:s.TypeIs (.ref sl) "slice" := ⟨os,hos,hcs⟩
 unfold getItem
 try with_reducible refine wpAny_holding ?_
 first | refine wpAny_bind (wpAny_pure ?_) | skip
 refine wpAny_bind (wpAny_sequenceKey ht.typeIs (by decide) ?_)
 refine wpAny_bind (wpAny_callSpecial?_slot (name:=Str.ofString "__getitem__") ht.typeIs PyProof.Rows.slot_tuple_getitem
  (wpAny_call_entry PyProof.Rows.slot_tuple_getitem ht.typeIs entry_tuple_getitem ?_ (args_tuple_getitem _ _)))
 show wpAny _ _ (Builtin.Tuple.tupleItemsOf (.ref t) >>= _) _ _ s
 refine wpAny_bind (tupleItemsOf_ ht ?_)
 refine wpAny_bind (wpAny_typeOf hTs ?_)
 rw [if_pos (by decide)]
 refine wpAny_bind (sliceApplied_gen hs pl pu ?_)
 have hyes:(((sIx items.size 0 lo:Nat):Int) == 0 && (1:Int) == 1 && (sIx items.size items.size hi - sIx items.size 0 lo) == items.size)=true:=by
  rw [hw.1,hw.2];simp
 show wpAny _ _ (if (((sIx items.size 0 lo:Nat):Int) == 0 && (1:Int) == 1 && (sIx items.size items.size hi - sIx items.size 0 lo) == items.size)=true then _ else _) _ _ s
 rw [if_pos hyes]
 unfold Builtin.Tuple.tupleIsExact
 refine wpAny_bind (wpAny_bind (wpAny_typeOf ht.typeIs (wpAny_pure ?_)))
 rw [if_pos (by decide)]
 first
  | exact wpAny_bind (wpAny_rule (wpAny_pure ⟨_,rfl,wpAny_pure h⟩))
  | exact wpAny_bind (wpAny_rule (wpAny_bind (wpAny_pure (wpAny_pure ⟨_,rfl,wpAny_pure h⟩))))
  | exact wpAny_bind (wpAny_bind (wpAny_rule (wpAny_pure (wpAny_pure ⟨_,rfl,wpAny_pure h⟩))))
end
end HT
namespace L3
open PySem PySem.Spec PyProof.Rows L2
section
variable {X:Cx}
def rSlTA (K:PySem.W.Frag):V->Option Int->Option Int->Hp->VK->Prop:=fun x lo hi H Q=>∃ (a:Addr) (xs:List V),x=.ref a/\SqT K H a xs ∧
 ((HT.sIx xs.length 0 lo=0/\HT.sIx xs.length xs.length hi=xs.length)->Q (.ref a) H)/\(¬ (HT.sIx xs.length 0 lo=0/\HT.sIx xs.length xs.length hi=xs.length)->∀ p,H p=none->Q (.ref p) (upd H p (.tup (cutV xs lo hi))))
theorem sl_tupA:SlR X (rSlTA X.K):=by
 intro pins s σ H x v vl vu lo hi sl Q I rx hs pl pu h
 obtain ⟨a,xs,rfl,hx,q1,q2⟩:=h
 by_cases hw:HT.sIx xs.length 0 lo=0/\HT.sIx xs.length xs.length hi=xs.length
 ·cases rx
  obtain ⟨its,r,ht,hz⟩:=I.tuple hx
  have hlen:its.toArray.size=xs.length:=by rw [List.size_toArray];exact r.length.symm
  refine ⟨"tuple",_,PyProof.Rows.slot_tuple_getitem.lookup,ht.typeIs,?_⟩
  exact HT.cut_whole ht hs pl pu (by rw [hlen];exact hw) ⟨.ref a,H,I,rfl,q1 hw⟩
 ·exact sl_tup pins s σ H _ v vl vu lo hi sl Q I rx hs pl pu ⟨a,xs,rfl,hx,hw,q2 hw⟩
end
end L3
namespace Vm
open PySem PySem.Spec PyProof.Rows L2 L3
theorem iteK {c A B:Prop} [Decidable c] (h:¬ c) (hb:B):if decide c=true then A else B:=by rw [decide_eq_false h];exact hb
theorem iteY {c A B:Prop} [Decidable c] (h:c) (ha:A):if decide c=true then A else B:=by rw [decide_eq_true h];exact ha
inductive Sk where
 | keep | lose | twice | swap | turn (w:Str) | add (w:Str) | skip (m:Nat)
def stepV:Sk->List V
 | .keep=>[.str (Str.ofString "keep")]
 | .lose=>[.str (Str.ofString "lose")]
 | .twice=>[.str (Str.ofString "twice")]
 | .swap=>[.str (Str.ofString "swap")]
 | .turn w=>[.str (Str.ofString "turn"),.str w]
 | .add w=>[.str (Str.ofString "add"),.str w]
 | .skip m=>[.str (Str.ofString "skip"),.int (m:Nat)]
def okS:Sk->Prop
 | .skip m=>1<=m/\m<=1000
 | .turn w=>Good w
 | .add w=>Good w
 | _=>True
def gt (es:List Str) (d:Nat):Str:=(es[d]?).getD (Str.ofString "")
theorem gt_of {es:List Str} {d:Nat} (h:d < es.length):es[d]?=some (gt es d):=by
 unfold gt
 rw [List.getElem?_eq_getElem h];rfl
theorem at_w {es:List Str} {d:Nat} (h:d < es.length):atI (es.map V.str) (d:Int)=some (.str (gt es d)):=atI_nat (by rw [List.getElem?_map,gt_of h];rfl)
theorem str_dec (a b:Str):decide (V.str a=V.str b)=decide (a=b):=decide_eq_decide.mpr ⟨fun e=>by injection e,fun e=>by rw [e]⟩
theorem gt_mem {es:List Str} {d:Nat} (h:d < es.length):gt es d ∈ es:=List.mem_of_getElem? (gt_of h)
end Vm
namespace L3
open PySem PySem.Spec PyProof.Rows L2
section
variable {X:Cx} {pins:List (Addr × Obj)} {σ:L2.St} {H H':Hp} {s:Shared} {b:Addr}
end
section
variable {X:Cx} {E:XK} {e:Value} {s:Shared}
end
section
variable {P:Program} {w:World} {K:PySem.W.Frag} {mg:Str->Option Value} {base:Heap} {N:List Str} {qual:Str} {scope:Scope} {f:Addr} {cd:Value} {A:Around} {outer:List Env} {s0:Shared} {H0:Hp} {E:XK}
end
end L3
namespace L3
open PySem PySem.Spec PyProof.Rows L2
section
variable {X:Cx} {k:Nat} {f:Addr} {fd:FuncData} {ps:List Str} {sp:Sp} {fx x c:Str} {e:Expr} {es:List Expr} {ta:TA} {p pos:Pos}
end
end L3
namespace Vm
open PySem PySem.Spec PyProof.Rows L2 L3
theorem sameT {K:PySem.W.Frag} {H H':Hp} {a:Addr} {xs:List V} (S:Same H H') (h:SqT K H a xs):SqT K H' a xs:=by
 rcases h with (h | ⟨o,h⟩) | h
 ·exact .inl (.inl (S _ _ h))
 ·exact .inl (.inr ⟨o,S _ _ h⟩)
 ·exact .inr h
theorem ref_at {ts:List Addr} {i:Nat} {y:V} (hi:(ts.map V.ref)[i]?=some y):∃ t,ts[i]?=some t/\y=.ref t:=by
 rw [List.getElem?_map] at hi
 cases e:ts[i]? with
 | none=>rw [e] at hi;cases hi
 | some t=>rw [e] at hi;exact ⟨t,rfl,(Option.some.inj hi).symm⟩
theorem last_at {cp:List Str} (h:0 < cp.length):∃ l,cp.getLast?=some l/\atI (cp.map V.str) (-1)=some (.str l):=by
 obtain ⟨r,z,rfl⟩:∃ r z,cp=r++[z]:=⟨cp.dropLast,cp.getLast (by intro e;rw [e] at h;exact absurd h (by decide)),(List.dropLast_concat_getLast _).symm⟩
 refine ⟨z,by simp,?_⟩
 rw [List.map_append]
 exact atI_last _ _
end Vm
namespace L3
open PySem PySem.Spec PyProof.Rows L2
section
variable {prog:Program} {w:World}
section
variable {A:Around} {E:Value->Shared->Prop} {s:Shared} {z TI TO i1 i2 t1 t2:Addr} {xs ys:Array Value} {S1 S2:Nat->Heap->Prop} {k:Nat}
end
end
end L3
namespace L3
open PySem PySem.Spec PyProof.Rows L2
section
variable {X:Cx} {pins:List (Addr × Obj)} {σ:L2.St} {H:Hp} {s:Shared} {h':Heap}
end
section
variable {prog:Program} {w:World} {A:Around} {E:Value->Shared->Prop} {s:Shared} {z TI TO i1 i2 t1 t2:Addr} {xs ys:Array Value} {k:Nat}
end
section
variable {X:Cx} {es:List Expr} {x1:Nat} {tpos:Pos}
theorem call_sum (hc:X.calm=true):CallR X (.builtin "sum") (fun xs H Q=>∃ (p:Addr) (ns:List Int),xs=[.ref p]/\SqL X.K H p (ns.map V.int)/\Q (.int ns.sum) H):=by
 intro pins s σ H xs us Q I r h
 obtain ⟨p,ns,rfl,hq,q⟩:=h
 obtain ⟨u,rfl,ru⟩:=r.one
 cases ru
 obtain ⟨its,rv,hp,hz⟩:=I.list hq
 have hlt:p < s.heap.objs.size:=by obtain ⟨_,e,_⟩:=hp.isList;exact Heap.lt_size e
 have el:its.toArray.size=ns.length:=by rw [List.size_toArray,<-rv.length,List.length_map]
 refine call_sum_walkG (wpAny_pyIter_list hp.isList ?_)
 refine ⟨s.heap.objs.size,[s.heap.objs.size,p],[s.heap.objs.size],its.toArray.size,_,_,fun i=>ns.getD i 0,rfl,Walks.list (A:=X.A.in1) (I.ok.hd hc) _ _ (Nat.ne_of_lt hlt) its.toArray,⟨⟨_,Heap.get?_push_size _ rfl,rfl,rfl⟩,hp.isList.push _⟩,?_,?_,?_⟩
 ·intro b hb
  simp only [List.mem_cons,List.not_mem_nil,or_false] at hb
  rw [Heap.size_push]
  rcases hb with rfl | rfl
  ·exact Nat.lt_succ_self _
  ·exact Nat.lt_succ_of_lt hlt
 ·intro i v hv
  have hv':its[i]?=some v:=by simpa using hv
  have hi:i < ns.length:=by
   have:=(List.getElem?_eq_some_iff.mp hv').1
   rw [<-el,List.size_toArray];exact this
  obtain ⟨u,hu,ru⟩:=rv.get (i:=i) (x:=V.int ns[i]) (by rw [List.getElem?_map,List.getElem?_eq_getElem hi];rfl)
  rw [hv'] at hu;cases hu
  obtain ⟨t,rfl⟩:=ru
  exact ⟨t,by show Value.int ns[i] t=Value.int (ns.getD i 0) t;rw [List.getD_eq_getElem?_getD,List.getElem?_eq_getElem hi];rfl⟩
 ·intro h' tk t' hk
  rw [el,preSum_getD,List.take_length]
  exact ⟨.int _,H,I.kept fun b o e=>hk b o (fun z=>absurd (Heap.lt_size e) (by rw [List.mem_singleton.mp z];exact Nat.lt_irrefl _)) (Heap.get?_push_of_some _ e),⟨_,rfl⟩,q⟩
def rIxOf:V->List V->Hp->VK->Prop:=fun x vs H Q=>∃ (l:Addr) (ws:List Str) (z:Str) (j:Nat),x=.ref l/\vs=[.str z]/\H l=some (.lst (ws.map V.str))/\ws[j]?=some z/\(∀ m,m < j->ws[m]? ≠ some z)/\ws.length<=1000/\Q (.int (j:Nat)) H
theorem mt_indexL:MtM X "list.index" rIxOf:=by
 intro pins s σ H x vs v us Q I rx rv h
 obtain ⟨l,ws,z,j,rfl,rfl,hH,hj,hno,hw,q⟩:=h
 cases rx
 obtain ⟨u,rfl,ru⟩:=rv.one
 obtain ⟨t,rfl⟩:=ru
 obtain ⟨zz,its,n,r,hl,e⟩:=I.lstM hH
 have hjl:j < ws.length:=(List.getElem?_eq_some_iff.mp hj).1
 have hits:its.length=ws.length:=by rw [<-hl,List.length_map]
 have at':∀ m (hm:m < its.length),∃ (y:Str) (ty:Tok),its[m]=.str y ty/\ws[m]?=some y:=fun m hm=>by
  have hm':m < ws.length:=by omega
  obtain ⟨u,eu,ru⟩:=r.get (i:=m) (x:=V.str ws[m]) (by rw [List.getElem?_map,List.getElem?_eq_getElem hm'];rfl)
  rw [List.getElem?_eq_getElem hm] at eu
  cases eu
  obtain ⟨ty,ety⟩:=ru
  exact ⟨ws[m],ty,ety,List.getElem?_eq_getElem hm'⟩
 have flat:(ws.map V.str).all flatV=true:=by rw [List.all_map,List.all_eq_true];exact fun _ _=>rfl
 refine call_meets PySem.F.slot_list_index ⟨_,e,rfl⟩ PySem.F.entry_list_index (PySem.F.args_list_index_2 _ _)
  (SeqAt.list_indexAt l its.toArray n none #[] (.str z t) (eqU (.str z)) j (by rw [List.size_toArray];omega) (by omega) ?_ ?_) ⟨e,fun y hy=>mem_eqAt (x:=.str z) (v:=.str z t) ⟨t,rfl⟩ rfl r flat y (by simpa using hy),⟨.int _,H,I.tok _,⟨_,rfl⟩,q⟩⟩
 ·obtain ⟨y,ty,e1,e2⟩:=at' j (by omega)
  rw [List.getElem_toArray,e1]
  rw [hj] at e2
  cases e2
  show (z == z)=true
  simp
 ·intro m hm hmj
  rw [List.size_toArray] at hm
  obtain ⟨y,ty,e1,e2⟩:=at' m hm
  rw [List.getElem_toArray,e1]
  show (y == z)=false
  have:y ≠ z:=fun q=>hno m hmj (by rw [e2,q])
  simp [this]
theorem ix_dictM {K:PySem.W.Frag} (hK:X.K=K) {a:Addr} {es:Array DictEntry} {n:Nat} (hl:K.lookup a=some ⟨.type "dict",none,.dict es n,#[]⟩) (hk:PySem.W.KeysLit X.w.params es.toList) :
  IxR X (fun x y H Q=>∃ (z:Str) (v:V) (u:Value),x=.ref a/\y=.str z/\PySem.W.nsIn K a z=some (some u)/\RelV v u/\Q v H):=by
 subst hK
 intro value slice pins s σ H x y v u Q I rx ry h hs
 obtain ⟨z,v',u',rfl,rfl,e,rv,q⟩:=h
 cases rx
 obtain ⟨t,rfl⟩:=ry
 have hm:=PySem.W.mapOf_K (prog:=X.prog) I.kIn hl hk
 exact tail_any hm.typeIs PySem.F.slot_dict_getitem.lookup (wpAny_getItem_of (strKind_is X.prog X.w z t) hm (PySem.W.find_K hl e) ⟨v',H,I.tok _,rv,q⟩) hs
end
end L3
namespace L3
open PySem PySem.Spec PyProof.Rows L2
section
variable {X:Cx}
end
def eqL:List V->List V->Bool
 | [],[]=>true
 | x :: xs,y :: ys=>eqV x y && eqL xs ys
 | _,_=>false
theorem eqL_eq:∀ xs ys:List V,(decide (xs.length=ys.length) && (List.range xs.length).all fun i=>eqV (xs.getD i .non) (ys.getD i .non))=eqL xs ys
 | [],[]=>rfl
 | [],y :: ys=>by simp [eqL]
 | x :: xs,[]=>by simp [eqL]
 | x :: xs,y :: ys=>by
  have ih:=eqL_eq xs ys
  rw [List.length_cons,List.length_cons,List.range_succ_eq_map,List.all_cons,List.all_map]
  have e:decide (xs.length+1=ys.length+1)=decide (xs.length=ys.length):=decide_eq_decide.mpr (by omega)
  rw [e]
  show (decide (xs.length=ys.length) && (eqV x y && (List.range xs.length).all fun i=>eqV (xs.getD i .non) (ys.getD i .non)))=(eqV x y && eqL xs ys)
  rw [<-ih]
  exact Bool.and_left_comm _ _ _
theorem EqS.flats {K:PySem.W.Frag} {H:Hp} {p r:Addr} {xs ys:List V} (h:(SqL K H p xs/\SqL K H r ys)\/(SqT K H p xs/\SqT K H r ys)) (hx:xs.all flatV=true) (hy:ys.all flatV=true):EqS K H 0 (.ref p) (.ref r) (eqL xs ys):=by
 refine ⟨p,r,xs,ys,fun i=>eqV (xs.getD i .non) (ys.getD i .non),rfl,rfl,h,fun i x y ex ey=>?_,(eqL_eq xs ys).symm⟩
 refine ⟨List.all_eq_true.mp hx x (List.mem_of_getElem? ex),List.all_eq_true.mp hy y (List.mem_of_getElem? ey),?_⟩
 show eqV (xs[i]?.getD .non) (ys[i]?.getD .non)=_
 rw [ex,ey];rfl
end L3
namespace Vm
open PySem PySem.Spec PyProof.Rows L2 L3
section
open PySem.StrLaws Builtin Builtin.Str
end
structure TupsAt (H:Hp) (ts:List Addr) (sts:List Sk):Prop where
 len:ts.length=sts.length
 item:∀ (i:Nat) (t:Addr) (st:Sk),ts[i]?=some t->sts[i]?=some st->H t=some (.tup (stepV st))/\okS st
theorem TupsAt.mono {H H':Hp} {ts:List Addr} {sts:List Sk} (S:Same H H') (h:TupsAt H ts sts):TupsAt H' ts sts:=
 ⟨h.len,fun i t st e1 e2=>⟨S _ _ (h.item i t st e1 e2).1,(h.item i t st e1 e2).2⟩⟩
theorem TupsAt.nil {H:Hp}:TupsAt H [] []:=⟨rfl,fun i t st e _=>by simp at e⟩
theorem TupsAt.app {H:Hp} {ts us:List Addr} {sts sus:List Sk} (h:TupsAt H ts sts) (h2:TupsAt H us sus):TupsAt H (ts++us) (sts++sus):=by
 refine ⟨by rw [List.length_append,List.length_append,h.len,h2.len],fun i t st e1 e2=>?_⟩
 by_cases hi:i < ts.length
 ·rw [List.getElem?_append_left hi] at e1
  rw [List.getElem?_append_left (by rw [<-h.len];exact hi)] at e2
  exact h.item i t st e1 e2
 ·rw [List.getElem?_append_right (by omega)] at e1
  rw [List.getElem?_append_right (by rw [<-h.len];omega),<-h.len] at e2
  exact h2.item _ t st e1 e2
theorem TupsAt.one {H:Hp} {t:Addr} {st:Sk} (h:H t=some (.tup (stepV st))) (ho:okS st):TupsAt H [t] [st]:=by
 refine ⟨rfl,fun i t' st' e1 e2=>?_⟩
 cases i with
 | zero=>cases e1;cases e2;exact ⟨h,ho⟩
 | succ i=>simp at e1
theorem TupsAt.set {H:Hp} {l:Addr} {ts:List Addr} {sts:List Sk} {ys:List V} {o:HO} (h:TupsAt H ts sts) (hl:H l=some (.lst ys)):TupsAt (upd H l o) ts sts:=
 ⟨h.len,fun i t st e1 e2=>⟨by
  have e:=(h.item i t st e1 e2).1
  have n:t ≠ l:=fun z=>by rw [z,hl] at e;cases e
  rw [upd_ne n];exact e,(h.item i t st e1 e2).2⟩⟩
theorem freeNe {H:Hp} {p r:Addr} {o:HO} (h:upd H p o r=none):r ≠ p/\H r=none:=by
 have n:r ≠ p:=fun e=>by rw [e,upd_same] at h;cases h
 exact ⟨n,by rw [upd_ne n] at h;exact h⟩
theorem comp_grow {α:Type} {J:It} {H:Hp} {as:List α} {v:α->V} {te:TE} {Q:VK} {rest:L2.St} (I:Nat->List V->Hp->Prop) (hs:∀ i acc H',i<=as.length->I i acc H'->Src J H' (as.map v)) (hz:as.length<=sizeLine) (h0:I 0 [] H)
  (hl:∀ i acc H',I i acc H'->acc.length=i) (he:∀ i a acc H',as[i]?=some a->I i acc H'->∀ k:VK,(∀ x H2,I (i+1) (acc++[x]) H2->k x H2)->te (some (v a) :: rest) H' k)
  (hq:∀ acc H',I as.length acc H'->∀ D,H' D=none->Q (.ref D) (upd H' D (.lst acc))):wComp J (gName 0) tYes te Q (none :: rest) H:=by
 refine ⟨fun i m σ acc H'=>I i acc H'/\i<=as.length/\m=as.length - i/\∃ o,σ=o :: rest,⟨as.length,h0,Nat.zero_le _,rfl,none,rfl⟩,?_⟩
 rintro i m σ acc H' ⟨hI,hi,rfl,o,rfl⟩
 have hacc:=hl i acc H' hI
 have S:=hs i acc H' hi hI
 by_cases hlt:i < as.length
 ·refine .inr ⟨S.go i (by rw [List.length_map];exact hlt),fun x H1 y=>?_⟩
  obtain ⟨rfl,hx⟩:=S.yld i x H1 (by rw [List.length_map];exact hlt) y
  rw [List.getElem?_map,List.getElem?_eq_getElem hlt] at hx
  have hx':v as[i]=x:=Option.some.inj hx
  subst hx'
  show te (some (v as[i]) :: rest) H1 _
  exact he i as[i] acc H1 (List.getElem?_eq_getElem hlt) hI _ fun x H2 h2=>⟨by omega,as.length - (i+1),by omega,h2,hlt,rfl,_,rfl⟩
 ·have ei:i=as.length:=by omega
  subst ei
  exact .inl ⟨S.stop _ (by rw [List.length_map];exact Nat.le_refl _),by omega,hq acc H' hI⟩
end Vm
namespace L3
open PySem PySem.Spec PyProof.Rows L2
def Itr3 (lo c:Int) (n:Nat):It:=⟨fun i _=>i < n,fun i H x H'=>H'=H/\x=.int (lo+(i:Nat) * c),fun i _=>n<=i⟩
theorem turn_range3 {P:Program} {w:World} {K:PySem.W.Frag} {tg:Expr} (it:Addr) (lo c:Int) (n:Nat):Turn P w K tg (Itr3 lo c n) [it] it (fun i h=>IsRangeIter h it (lo+(i:Nat) * c) ((n:Int) - (i:Nat)) c) where
 mem:=List.mem_singleton.mpr rfl
 obj:=fun i h st b hb=>by
  rw [List.mem_singleton.mp hb]
  exact ⟨_,st,fun v z=>nomatch (show Data.fields _=Data.cell v from z)⟩
 keep:=fun i h h' st k=>k it (List.mem_singleton.mpr rfl) _ st
 item:=by
  intro X hP hw hK hc i pins s σ H E I hf st hg
  subst hP hw hK
  obtain ⟨f0,f1,f2,f3,f4,f5⟩:=hf it (List.mem_singleton.mpr rfl)
  refine (Walks.range (prog:=X.prog) (w:=X.w) (I.ok.hd hc) it lo c n).item i s _ _ hg st fun v h' tk hv st' kk=>?_
  obtain ⟨t,rfl⟩:=hv
  have I1:Inv X pins σ H { s with heap:=h',toks:=tk }:=I.turned (fun b o hb e=>kk b o (fun z=>hb (List.mem_singleton.mp z)) e) f0 f1 f3 f4 f5
  exact ⟨_,rfl,go_of (s:={ s with heap:=h',toks:=tk }) (n := "range_iterator") st' rfl rfl (by decide) ⟨.int (lo+(i:Nat) * c),H,I1,⟨t,rfl⟩,⟨rfl,rfl⟩,st',fun b hb=>(hf b hb).1⟩⟩
 done:=by
  intro X hP hw hK hc i pins s σ H E I hf st hg
  subst hP hw hK
  obtain ⟨f0,f1,f2,f3,f4,f5⟩:=hf it (List.mem_singleton.mpr rfl)
  have hle:(n:Int) - (i:Nat)<=0:=by have:n<=i:=hg;omega
  exact wpAny_pyNext_range_end (I.ok.hd hc) st hle fun h' eb=>⟨rfl,I.turned (t':=s.toks) (fun b o hb e=>eb b o hb e) f0 f1 f3 f4 f5⟩
 self:=fun _ _ _ _ _ st h=>wpAny_pyIter_rangeiter st h
section
variable {X:Cx} {tg:Expr}
theorem range_it3 {pins:List (Addr × Obj)} {σ:L2.St} {H:Hp} {s:Shared} {R:It->Hp->Prop} {E:Value->Shared->Prop} {lo hi c:Int} {n:Nat} {t u v:Tok} {tk:Nat} (I:Inv X pins σ H s) (hs:Builtin.Range.small lo hi c=true) (hn:Builtin.Range.rangeSize lo hi c=(n:Int))
  (q:R (Itr3 lo c n) H):wpAny (model X.prog X.w) X.A (pyIter (.ref s.heap.objs.size)) (PIE X pins σ tg R) E { s with heap:=s.heap.push { cls:=.type "range",data:=.fields #[.int lo t,.int hi u,.int c v] },toks:=tk }:=by
 refine wpAny_pyIter_range (IsRange.new ..) hs ?_
 have I1:Inv X pins σ H { s with heap:=s.heap.push { cls:=.type "range",data:=.fields #[.int lo t,.int hi u,.int c v] },toks:=tk }:=I.kept fun b o e=>Heap.get?_push_of_some _ e
 generalize hg:s.heap.push { cls:=.type "range",data:=.fields #[.int lo t,.int hi u,.int c v] }=g at I1
 refine ⟨g.objs.size,[g.objs.size],_,_,H,rfl,I1.kept (t':=tk) fun b o e=>Heap.get?_push_of_some _ e,turn_range3 _ lo c n,?_,fun b hb=>?_,q⟩
 ·show IsRangeIter _ _ (lo+((0:Nat):Int) * c) ((n:Int) - ((0:Nat):Int)) c
  rw [show lo+((0:Nat):Int) * c=lo by simp,show (n:Int) - ((0:Nat):Int)=Builtin.Range.rangeSize lo hi c by rw [hn];simp]
  exact Heap.get?_push_size _ rfl
 ·rw [List.mem_singleton.mp hb]
  exact I1.fpOk (Nat.le_refl _) (I1.hok.fresh (Nat.le_refl _))
def iRng3 (ta:TA):TI:=fun σ H R=>ta σ H fun vs H1=>∃ (i j c:Int) (n:Nat),vs=[.int i,.int j,.int c]/\c ≠ 0/\c.natAbs < 1073741824/\Builtin.Range.small i j c=true/\Builtin.Range.rangeSize i j c=(n:Int)/\R (Itr3 i c n) H1
theorem pi_range3 {a b d:Expr} {ta:TA} {p pos:Pos} (hg:Gl X "range") (hm:X.mg "range" = none) (ha:PA X [a,b,d] ta) (hs:starEach [a,b,d] X.env=[(false,eval a X.env),(false,eval b X.env),(false,eval d X.env)]:=by rfl) (hs2:starEach [b,d] X.env=[(false,eval b X.env),(false,eval d X.env)]:=by rfl) :
  PI X tg (.Call (.Name "range" p) [a,b,d] [] pos) (iRng3 ta):=by
 intro pins s σ H R I h
 refine Call_ (ld_blt I hg hm boot_range (PyProof.Rows.callWith_type1 (thn (ha pos pins s σ H _ I h) fun us s1 ⟨vs,H1,I1,r1,q1⟩=>?_) (by rw [hs,hs2]) (by rw [hs2];rfl)))
 obtain ⟨i,j,c,n,e,hc,hc2,h1,h2,q⟩:=q1
 subst e
 cases r1 with
 | cons r rr=>
 cases rr with
 | cons r' rr=>
 cases rr with
 | cons r'' rr=>
  cases rr
  obtain ⟨t,rfl⟩:=r
  obtain ⟨t',rfl⟩:=r'
  obtain ⟨t'',rfl⟩:=r''
  exact call_range_3 hc (range_it3 I1 h1 h2 q) (Or.inl (PyProof.noPylong_small hc2))
theorem for_range3 {lo c:Int} {n:Nat} {g:TG} {tb:TS} {D:Ends} {σ:L2.St} {H:Hp} (Pv:Nat->L2.St->Hp->Prop) (h0:Pv 0 σ H)
  (hs:∀ i σ H,i < n->Pv i σ H->g (.int (lo+(i:Nat) * c)) σ H fun σ2 H2=>tb { D with nx:=Pv (i+1),ct:=Pv (i+1),bk:=D.nx } σ2 H2) (hd:∀ σ H,Pv n σ H->D.nx σ H) :
  ∃ W:Nat->Nat->L2.St->Hp->Prop,(∃ m,W 0 m σ H)/\∀ i m σ H,W i m σ H →
   ((Itr3 lo c n).stop i H/\D.nx σ H)\/((Itr3 lo c n).go i H/\∃ N:L2.St->Hp->Prop,(∀ σ' H',N σ' H'->∃ m',m' < m/\W (i+1) m' σ' H')/\∀ x H',(Itr3 lo c n).yld i H x H'->g x σ H' fun σ2 H2=>tb { D with nx:=N,ct:=N,bk:=D.nx } σ2 H2):=by
 refine ⟨fun i m σ H=>m=n - i/\i<=n/\Pv i σ H,⟨n,by simp,Nat.zero_le _,h0⟩,?_⟩
 rintro i m σ H ⟨rfl,hi,p⟩
 rcases Nat.lt_or_ge i n with hlt | hge
 ·refine .inr ⟨hlt,Pv (i+1),fun σ' H' p'=>⟨n - (i+1),by omega,rfl,hlt,p'⟩,?_⟩
  rintro x H' ⟨rfl,rfl⟩
  exact hs i σ _ hlt p
 ·have e:i=n:=by omega
  subst e
  exact .inl ⟨Nat.le_refl _,hd σ H p⟩
end
end L3
namespace L3
open PySem PySem.Spec PyProof.Rows L2
section
variable {X:Cx}
theorem op_mulB:OpR X (binaryOp .Mult) (rI (fun i j=>IntMulOk i j) fun i j=>.int (i * j)):=opI fun _ _ _ _ _ _ _ hc q=>mul_int q hc
end
end L3
namespace HT
open PySem PySem.Spec PyProof.Rows
section
variable {prog:Program} {w:World} {A:Around} {E:Value->Shared->Prop} {s:Shared}
theorem adjust_rev (n:Nat):Builtin.Slice.sliceAdjust none none (-1) (n:Int)=((n:Int) - 1,-1):=by
 unfold Builtin.Slice.sliceAdjust
 simp
theorem places_rev (n:Nat):Builtin.Slice.slicePlaces ((n:Int) - 1) (-1) (-1)=n:=by
 unfold Builtin.Slice.slicePlaces
 simp
 try omega
theorem fm_map {α β:Type} {f:α->Option β} {g:α->β}:∀ {l:List α},(∀ m ∈ l,f m=some (g m))->l.filterMap f=l.map g
 | [],_=>rfl
 | a :: r,h=>by rw [List.filterMap_cons,h a List.mem_cons_self,List.map_cons,fm_map fun m hm=>h m (List.mem_cons_of_mem _ hm)]
theorem pick_rev (xs:Array Value):((List.range xs.size).filterMap fun (m:Nat)=>xs[(((xs.size:Nat):Int) - 1+(m:Int) * (-1)).toNat]?).toArray=xs.toList.reverse.toArray:=by
 congr 1
 rw [fm_map (g:=fun m=>(xs[xs.size - 1 - m]?).getD .none) fun m hm=>?_]
 ·apply List.ext_getElem?
  intro i
  rw [List.getElem?_map]
  by_cases hi:i < xs.size
  ·rw [List.getElem?_range hi,List.getElem?_reverse (by rw [Array.length_toList];exact hi),Array.length_toList,Array.getElem?_toList]
   show some ((xs[xs.size - 1 - i]?).getD .none)=_
   rw [Array.getElem?_eq_getElem (show xs.size - 1 - i < xs.size by omega)]
   rfl
  ·rw [List.getElem?_eq_none (by rw [List.length_range];omega),List.getElem?_eq_none (by rw [List.length_reverse,Array.length_toList];omega)]
   rfl
 ·have hm':=List.mem_range.mp hm
  have e1:(((xs.size:Nat):Int) - 1+(m:Int) * (-1)).toNat=xs.size - 1 - m:=by omega
  show xs[(((xs.size:Nat):Int) - 1+(m:Int) * (-1)).toNat]?=some ((xs[xs.size - 1 - m]?).getD .none)
  rw [e1,Array.getElem?_eq_getElem (show xs.size - 1 - m < xs.size by omega)]
  rfl
theorem getItem_tuple_rev {t sl:Addr} {items:Array Value} {tk:Tok} {Q:Value->Shared->Prop} (ht:IsTup s.heap t items) (hs:s.heap.IsSliceOf sl .none .none (.int (-1) tk))
  (h:Q (.ref s.heap.objs.size) { s with heap:=s.heap.push { cls:=.type "tuple",data:=.seq items.toList.reverse.toArray } })
  (hsz:items.size<=sizeLine):wpAny (model prog w) A (getItem (.ref t) (.ref sl)) Q E s:=by
 have htake:sizeOk (.seq items.toList.reverse.toArray):=by
  show items.toList.reverse.toArray.size<=sizeLine
  rw [List.size_toArray,List.length_reverse,Array.length_toList]
  exact hsz
 obtain ⟨os,hos,hcs,hds⟩:=id hs
 have hTs:s.TypeIs (.ref sl) "slice" := ⟨os,hos,hcs⟩
 unfold getItem
 try with_reducible refine wpAny_holding ?_
 first | refine wpAny_bind (wpAny_pure ?_) | skip
 refine wpAny_bind (wpAny_sequenceKey ht.typeIs (by decide) ?_)
 refine wpAny_bind (wpAny_callSpecial?_slot (name:=Str.ofString "__getitem__") ht.typeIs PyProof.Rows.slot_tuple_getitem
  (wpAny_call_entry PyProof.Rows.slot_tuple_getitem ht.typeIs entry_tuple_getitem ?_ (args_tuple_getitem _ _)))
 show wpAny _ _ (Builtin.Tuple.tupleItemsOf (.ref t) >>= _) _ _ s
 refine wpAny_bind (tupleItemsOf_ ht ?_)
 refine wpAny_bind (wpAny_typeOf hTs ?_)
 rw [if_pos (by decide)]
 have app:∀ {Q:Int × Int × Nat->Shared->Prop},Q (((items.size:Nat):Int) - 1,-1,items.size) s->wpAny (model prog w) A.in1 (Builtin.Slice.sliceApplied (.ref sl) (pure ((items.size:Nat):Int))) Q E s:=fun hq=>by
  unfold Builtin.Slice.sliceApplied Builtin.Slice.sliceFields
  refine wpAny_bind (wpAny_bind (wpAny_field hos hds (x:=.none) rfl (wpAny_bind (wpAny_field hos hds (x:=.none) rfl (wpAny_bind (wpAny_field hos hds (x:=.int (-1) tk) rfl (wpAny_pure ?_)))))))
  refine wpAny_bind (slicePart_int ?_)
  show wpAny _ _ (if ((-1:Int) == 0)=true then _ else _) _ _ s
  rw [if_neg (by decide)]
  refine wpAny_bind (slicePart_none (wpAny_bind (slicePart_none (wpAny_bind (wpAny_pure ?_)))))
  show wpAny _ _ (match Builtin.Slice.sliceAdjust none none (-1) ((items.size:Nat):Int) with | (lo,hi)=>pure (lo,(-1:Int),Builtin.Slice.slicePlaces lo hi (-1))) _ _ s
  rw [adjust_rev]
  show wpAny _ _ (pure (((items.size:Nat):Int) - 1,(-1:Int),Builtin.Slice.slicePlaces (((items.size:Nat):Int) - 1) (-1) (-1))) _ _ s
  rw [places_rev]
  exact wpAny_pure hq
 refine wpAny_bind (app ?_)
 show wpAny _ _ (if (((((items.size:Nat):Int) - 1) == 0 && (-1:Int) == 1 && items.size == items.size)=true) then _ else _) _ _ s
 rw [if_neg (by rw [show ((-1:Int) == 1)=false from rfl,Bool.and_false,Bool.false_and];exact Bool.false_ne_true),pick_rev]
 first
  | exact wpAny_bind (m:=Builtin.Tuple.tupleExact _) (wpAny_newObj_type (wpAny_pure ⟨_,rfl,wpAny_pure h⟩) htake)
  | exact wpAny_bind (m:=Builtin.Tuple.tupleExact _) (wpAny_newObj_type (wpAny_bind (wpAny_pure (wpAny_pure ⟨_,rfl,wpAny_pure h⟩))) htake)
  | exact wpAny_bind (wpAny_bind (m:=Builtin.Tuple.tupleExact _) (wpAny_newObj_type (wpAny_pure (wpAny_pure ⟨_,rfl,wpAny_pure h⟩)) htake))
  | exact wpAny_bind (wpAny_bind (m:=Builtin.Tuple.tupleExact _) (wpAny_newObj_type (wpAny_pure ⟨_,rfl,wpAny_pure h⟩) htake))
end
end HT
namespace L3
open PySem PySem.Spec PyProof.Rows L2
section
variable {X:Cx} {e es:Expr} {te ts:TE} {pos p2:Pos}
theorem Vals.rev {xs:List V} {us:List Value} (r:Vals xs us):Vals xs.reverse us.reverse:=by
 induction r with
 | nil=>exact .nil
 | cons r1 r2 ih=>
  rw [List.reverse_cons,List.reverse_cons]
  exact ih.append (.cons r1 .nil)
def tRev (K:PySem.W.Frag) (te ts:TE):TE:=fun σ H Q=>te σ H fun x H1=>ts σ H1 fun y H2=>y=.int (-1)/\∃ (a:Addr) (xs:List V),x=.ref a/\SqT K H2 a xs/\∀ p,H2 p=none->Q (.ref p) (upd H2 p (.tup xs.reverse))
theorem pe_rev (he:PE X e te) (hs:PE X es ts):PE X (.Subscript e (.Slice none none (some es) p2) pos) (tRev X.K te ts):=by
 intro pins s σ H Q I h
 refine Subscript_ (thn (he pins s σ H _ I h) fun v s1 ⟨x,H1,I1,r1,q1⟩=>?_)
 refine wpAny_Slice ?_
 rw [evalPart_none,evalPart_some]
 refine wpAny_pure (wpAny_pure (thn (hs pins s1 σ H1 _ I1 q1) fun u s2 ⟨y,H2,I2,r2,q2⟩=>?_))
 obtain ⟨rfl,a,xs,rfl,hx,q⟩:=q2
 obtain ⟨tk,rfl⟩:=r2
 cases r1
 have I4:Inv X pins σ H2 { s2 with heap:=s2.heap.push { cls:=.type "slice",data:=.fields #[.none,.none,.int (-1) tk] } }:=I2.kept (t':=s2.toks) fun b ob q=>Heap.get?_push_of_some _ q
 obtain ⟨its,r,ht,hz⟩:=I4.tuple hx
 have hlen:its.toArray.size=xs.length:=by rw [List.size_toArray];exact r.length.symm
 show wpAny (model X.prog X.w) X.A (subscriptTail e (.Slice none none (some es) p2) (.ref a) (.ref s2.heap.objs.size)) (EP X pins σ Q) X.xe { s2 with heap:=s2.heap.push { cls:=.type "slice",data:=.fields #[.none,.none,.int (-1) tk] } }
 refine tail_any (ops:=[.ref a,.ref s2.heap.objs.size]) ht.typeIs PyProof.Rows.slot_tuple_getitem.lookup ?_ (by with_unfolding_all rfl)
 refine HT.getItem_tuple_rev ht (Heap.IsSliceOf.new ..) ?_ (by rw [hlen];exact hz)
 refine ⟨.ref _,_,I4.laid (t':=s2.toks) (o:=.tup xs.reverse) (fun b ob q=>Heap.get?_push_of_some _ q) (Nat.le_refl _) ?_,rfl,q _ (I4.hok.fresh (Nat.le_refl _))⟩
 exact ⟨by rw [List.length_reverse];exact hz,_,Vals.rev r,IsTup.new _ _⟩
end
end L3
namespace L3
open PySem PySem.W PySem.Calls PySem.Spec PyProof.Rows L2
theorem bits_lay {ns:List Int} (h:WData.layableAll [WData.list (ns.map WData.int)]=true):∀ m ∈ ns,Builtin.Int.intBits m<=1048576:=fun m hm=>by
 have h1:(WData.list (ns.map WData.int)).layable=true:=layableW_arg h _ List.mem_cons_self
 have h2:(WData.int m).layable=true:=layableW_item h1 _ (List.mem_map.mpr ⟨m,hm,rfl⟩)
 exact PyData.bits_of_layable (layable0_of_all (lay0_int h2))
theorem walk_ofB {l:PySem.W.OpenLaw} {n k:Nat} {q:Program} {loose:List Str} {XP:(Str->Option Value)->Heap->Prop} {YP:World->Heap->Prop} {d:DefRec} {K:Params->PySem.W.Frag} {CX:World->CXT} {sp:World->Sp} {x:Str}
  (hn:l.most=some n) (hn2:n<=sizeLine) (hdf:d.params.defaults=[]) (hr:Room k callerA) (hY:∀ (w:World) (h:Heap),YP w h->(K w.params).In h)
  (F:∀ (w:World) (mg:Str->Option Value) (fa:Addr) (h:Heap),(K w.params).In h->h.Ns mainGlobals mg->mg d.name=some (.ref fa) →
   ∃ fd:FuncData,(∀ (s:Shared) (u:Value),BindsTo s fd ⟨[u],[]⟩ [(x,u)])/\∀ base:Heap,(K w.params).In base->base.Ns mainGlobals mg->FnOk l.prog w (K w.params) mg base (CX w) k fa fd [x] (sp w))
  (hsp:∀ (w:World) (H:Hp) (a:Addr) (ns:List Int),ns.length<=n->(∀ m ∈ ns,Builtin.Int.intBits m<=1048576)->Only H->SqL (K w.params) H a (ns.map V.int)->sp w [.ref a] H (fun v _=>v=.bl true) fun _ _ _=>False)
  (hCX:∀ (w:World) (H:Hp) (s:Shared) (e:Value) (s':Shared),CX w [] H s (fun _ _ _=>False) e s'->False) :
  PySem.W.WalkO q loose XP YP l.row.toRowW d [] (fun f vs=>PySem.call f vs):=by
 intro w s₀ s₁ mg mb G Y fa o pm cd doc dV kV ho hd hcd hD hmg hg args vals as hpre hlay hrd hwl hlo
 obtain rfl:dV=.none:=Dflts.none hD hdf
 obtain rfl:kV=.none:=Dflts.noKw hD
 obtain ⟨a,vs,ns,rfl,rfl,hobj,hints,hlen⟩:=Att.script_of hn hpre hwl
 have KX:=hY w _ Y
 obtain ⟨fd,hb,hF⟩:=F w mg fa _ KX G.T.g hmg
 refine enter_call (codeAny_mono (law_call KX G.T.g G.T.b G.T.builtins G.T.nolimit hg hobj hints (Nat.le_trans hlen hn2) hr hF hb (fun H hO hS=>hsp w H a ns hlen (bits_lay hlay) hO hS) fun H e s'=>hCX w H s₁ e s') fun r s' hq=>?_)
 obtain ⟨rfl,h2,h3,h4⟩:=hq
 exact ⟨.inl ⟨.bool true,.bool true,[],rfl,fun _=>rfl,.bool true,Att.post_true l _,fun _=>⟨List.Pairwise.nil,fun _ hm=>(nomatch hm)⟩⟩,h2,h3,h4⟩
end L3
namespace Vm
open PySem PySem.Spec PyProof.Rows L2 L3
def swapW (es cs:List Str) (i j:Nat):Bool:=if i+1 < es.length then (if gt es i=gt es (i+1) then false else decide ((cs.drop j).take 2=[gt es (i+1),gt es i])) else false
def skips (es:List Str) (i:Nat):List Nat:=if i=0 then [] else ((List.range (es.length - i)).filter fun k=>decide (gt es (i+k)=gt es (i - 1))).map (·+1)
abbrev Way:=Sk × Nat × Nat
def w1 (es cs:List Str) (i j:Nat):List Way:=if i < es.length/\j < cs.length then [((if gt es i=gt cs j then .keep else .turn (gt cs j)),i+1,j+1)] else []
def w2 (es:List Str) (i j:Nat):List Way:=if i < es.length then [(.lose,i+1,j)] else []
def w3 (cs:List Str) (i j:Nat):List Way:=if j < cs.length then [(.add (gt cs j),i,j+1)] else []
def w4 (cs:List Str) (i j:Nat):List Way:=if 0 < j/\j < cs.length/\gt cs j=gt cs (j - 1) then [(.twice,i,j+1)] else []
def w5 (es cs:List Str) (i j:Nat):List Way:=if swapW es cs i j=true then [(.swap,i+2,j+2)] else []
def w6 (es:List Str) (i j:Nat):List Way:=(skips es i).map fun k=>(.skip k,i+k,j)
def ways (es cs:List Str) (i j:Nat):List Way:=w1 es cs i j++w2 es i j++w3 cs i j++w4 cs i j++w5 es cs i j++w6 es i j
theorem skips_in {es:List Str} {i k:Nat} (h:k ∈ skips es i):1<=k/\i+k<=es.length/\1<=i:=by
 unfold skips at h
 split at h
 ·cases h
 ·obtain ⟨m,hm,rfl⟩:=List.mem_map.mp h
  have:=List.mem_range.mp (List.mem_filter.mp hm).1
  omega
theorem ways_ok {es cs:List Str} {i j:Nat} (hc:∀ z ∈ cs,Good z) (he:es.length<=1000):∀ x ∈ ways es cs i j,okS x.1:=by
 intro x hx
 unfold ways at hx
 simp only [List.mem_append] at hx
 rcases hx with ((((h | h) | h) | h) | h) | h
 ·unfold w1 at h
  split at h
  ·rename_i hh
   rw [List.mem_singleton.mp h]
   show okS (if _ then _ else _)
   split
   ·trivial
   ·exact hc _ (gt_mem hh.2)
  ·cases h
 ·unfold w2 at h
  split at h
  ·rw [List.mem_singleton.mp h];trivial
  ·cases h
 ·unfold w3 at h
  split at h
  ·rename_i hh
   rw [List.mem_singleton.mp h];exact hc _ (gt_mem hh)
  ·cases h
 ·unfold w4 at h
  split at h
  ·rw [List.mem_singleton.mp h];trivial
  ·cases h
 ·unfold w5 at h
  split at h
  ·rw [List.mem_singleton.mp h];trivial
  ·cases h
 ·unfold w6 at h
  obtain ⟨k,hk,rfl⟩:=List.mem_map.mp h
  have:=skips_in hk
  exact ⟨this.1,by omega⟩
def wayV (t:Addr) (x:Way):List V:=[.ref t,.int ((x.2.1:Nat):Int),.int ((x.2.2:Nat):Int)]
structure WaysAt (H:Hp) (as:List Addr) (ws:List Way):Prop where
 len:as.length=ws.length
 item:∀ (k:Nat) (a:Addr) (x:Way),as[k]?=some a->ws[k]?=some x->∃ t,H a=some (.tup (wayV t x))/\H t=some (.tup (stepV x.1))
theorem WaysAt.mono {H H':Hp} {as:List Addr} {ws:List Way} (S:Same H H') (h:WaysAt H as ws):WaysAt H' as ws:=
 ⟨h.len,fun k a x e1 e2=>by
  obtain ⟨t,h1,h2⟩:=h.item k a x e1 e2
  exact ⟨t,S _ _ h1,S _ _ h2⟩⟩
theorem WaysAt.nil {H:Hp}:WaysAt H [] []:=⟨rfl,fun k a x e _=>by simp at e⟩
theorem WaysAt.set {H:Hp} {l:Addr} {ys:List V} {o:HO} {as:List Addr} {ws:List Way} (h:WaysAt H as ws) (hl:H l=some (.lst ys)):WaysAt (upd H l o) as ws:=
 ⟨h.len,fun k a x e1 e2=>by
  obtain ⟨t,h1,h2⟩:=h.item k a x e1 e2
  have n1:a ≠ l:=fun z=>by rw [z,hl] at h1;cases h1
  have n2:t ≠ l:=fun z=>by rw [z,hl] at h2;cases h2
  exact ⟨t,by rw [upd_ne n1];exact h1,by rw [upd_ne n2];exact h2⟩⟩
theorem WaysAt.app {H:Hp} {as bs:List Addr} {ws vs:List Way} (h:WaysAt H as ws) (h2:WaysAt H bs vs):WaysAt H (as++bs) (ws++vs):=by
 refine ⟨by rw [List.length_append,List.length_append,h.len,h2.len],fun i t st e1 e2=>?_⟩
 by_cases hi:i < as.length
 ·rw [List.getElem?_append_left hi] at e1
  rw [List.getElem?_append_left (by rw [<-h.len];exact hi)] at e2
  exact h.item i t st e1 e2
 ·rw [List.getElem?_append_right (by omega)] at e1
  rw [List.getElem?_append_right (by rw [<-h.len];omega),<-h.len] at e2
  exact h2.item _ t st e1 e2
theorem WaysAt.one {H:Hp} {a t:Addr} {x:Way} (h1:H a=some (.tup (wayV t x))) (h2:H t=some (.tup (stepV x.1))):WaysAt H [a] [x]:=by
 refine ⟨rfl,fun k a' x' e1 e2=>?_⟩
 cases k with
 | zero=>cases e1;cases e2;exact ⟨t,h1,h2⟩
 | succ k=>simp at e1
theorem way_add {H H2:Hp} {l t a:Addr} {as:List Addr} {ws:List Way} {x:Way} (S:Same H H2) (hl:H l=none) (h1:H2 l=some (.lst (as.map V.ref))) (hW:WaysAt H2 as ws) (ht:H2 t=none) (ha:upd H2 t (.tup (stepV x.1)) a=none) :
  upd (upd H2 t (.tup (stepV x.1))) a (.tup (wayV t x)) l=some (.lst (as.map V.ref)) ∧
  upd (upd (upd H2 t (.tup (stepV x.1))) a (.tup (wayV t x))) l (.lst (as.map V.ref++[.ref a])) l=some (.lst ((as++[a]).map V.ref)) ∧
  Same H (upd (upd (upd H2 t (.tup (stepV x.1))) a (.tup (wayV t x))) l (.lst (as.map V.ref++[.ref a]))) ∧
  WaysAt (upd (upd (upd H2 t (.tup (stepV x.1))) a (.tup (wayV t x))) l (.lst (as.map V.ref++[.ref a]))) (as++[a]) (ws++[x]):=by
 have S1:=same_upd (o:=.tup (stepV x.1)) ht
 have S2:=same_upd (o:=.tup (wayV t x)) ha
 have k1:=S2 _ _ (S1 _ _ h1)
 refine ⟨k1,by rw [upd_same,List.map_append];rfl,same_to ((S.trans S1).trans S2) hl,?_⟩
 refine WaysAt.set ?_ k1
 exact ((hW.mono S1).mono S2).app (WaysAt.one upd_same (S2 _ _ upd_same))
theorem cutV_two (cs:List Str) (j:Nat):cutV (cs.map V.str) (some ((j:Nat):Int)) (some (((j:Nat):Int)+2))=((cs.drop j).take 2).map V.str:=by
 have e:((j:Nat):Int)+2=((j+2:Nat):Int):=by omega
 unfold cutV
 rw [e,HT.sIx_nat,HT.sIx_nat,List.length_map,<-List.map_drop,<-List.map_take]
 congr 1
 by_cases h:j<=cs.length
 ·rw [Nat.min_eq_left h]
  by_cases h2:j+2<=cs.length
  ·rw [Nat.min_eq_left h2,Nat.add_sub_cancel_left]
  ·rw [Nat.min_eq_right (by omega),List.take_of_length_le (by rw [List.length_drop];omega),List.take_of_length_le (by rw [List.length_drop];omega)]
 ·rw [Nat.min_eq_right (by omega),Nat.min_eq_right (by omega),List.drop_of_length_le (Nat.le_refl _),List.drop_of_length_le (by omega)]
  simp
theorem cutTup {K:PySem.W.Frag} {H:Hp} {a:Addr} {xs:List V} {lo hi:Option Int} {Q:VK} (h:SqT K H a xs) (q:∀ p H',Same H H'->SqT K H' p (cutV xs lo hi)->Q (.ref p) H'):rSlTA K (.ref a) lo hi H Q:=by
 refine ⟨a,xs,rfl,h,fun hw=>q a H (Same.refl _) ?_,fun _ p hp=>q p _ (same_upd hp) (SqT.of upd_same)⟩
 have e:cutV xs lo hi=xs:=by
  unfold cutV
  rw [hw.1,hw.2,List.drop_zero,Nat.sub_zero,List.take_length]
 rw [e];exact h
theorem cutTake {α:Type} (g:α->V) (xs:List α) (n:Nat):cutV (xs.map g) none (some ((n:Nat):Int))=(xs.take n).map g:=by
 unfold cutV
 rw [HT.sIx_none,HT.sIx_nat,List.drop_zero,Nat.sub_zero,List.length_map,<-List.map_take]
 congr 1
 by_cases h:n<=xs.length
 ·rw [Nat.min_eq_left h]
 ·rw [Nat.min_eq_right (by omega),List.take_length,List.take_of_length_le (by omega)]
end Vm
namespace Vm
open PySem PySem.Spec PyProof.Rows L2 L3
abbrev Tb:=Nat->Nat->Option Int
def Tb.put (T:Tb) (d w:Nat) (v:Int):Tb:=fun a b=>if a=d/\b=w then some v else T a b
theorem Tb.put_same (T:Tb) (d w:Nat) (v:Int):T.put d w v d w=some v:=by simp [Tb.put]
theorem Tb.put_ne (T:Tb) {d w a b:Nat} (v:Int) (h:¬ (a=d/\b=w)):T.put d w v a b=T a b:=by simp [Tb.put,h]
def Tb.rel (pr:Nat->Sk->Int) (i j:Nat) (T:Tb) (x:Way):Tb:=
 match T i j with
 | none=>T
 | some t=>match T x.2.1 x.2.2 with
  | none=>T.put x.2.1 x.2.2 (t+pr i x.1)
  | some u=>if t+pr i x.1 < u then T.put x.2.1 x.2.2 (t+pr i x.1) else T
structure TabI (pr:Nat->Sk->Int) (Dn:Nat->Nat->Way->Prop) (T:Tb):Prop where
 z:T 0 0=some 0
 le:∀ a b x,Dn a b x->∃ t u,T a b=some t/\T x.2.1 x.2.2=some u/\u<=t+pr a x.1
 eq:∀ a b u,T a b=some u->¬ (a=0/\b=0)->∃ a' b' t x,Dn a' b' x/\x.2.1=a/\x.2.2=b/\T a' b'=some t/\u=t+pr a' x.1
theorem TabI.congr {pr:Nat->Sk->Int} {D D':Nat->Nat->Way->Prop} {T:Tb} (h:TabI pr D T) (e:∀ a b x,D a b x ↔ D' a b x):TabI pr D' T:=
 ⟨h.z,fun a b x k=>h.le a b x ((e a b x).mpr k),fun a b u hu hn=>by
  obtain ⟨a',b',t,x,k,r⟩:=h.eq a b u hu hn
  exact ⟨a',b',t,x,(e a' b' x).mp k,r⟩⟩
theorem TabI.more {pr:Nat->Sk->Int} {Dn:Nat->Nat->Way->Prop} {T:Tb} {i j:Nat} {t:Int} {x:Way} (h:TabI pr Dn T) (ht:T i j=some t) (h0:¬ (x.2.1=0/\x.2.2=0)) (hs:¬ (i=x.2.1/\j=x.2.2))
  (hd:∀ a b y,Dn a b y->¬ (a=x.2.1/\b=x.2.2)):TabI pr (fun a b y=>Dn a b y\/(a=i/\b=j/\y=x)) (T.rel pr i j x):=by
 have key:∀ v:Int,v=t+pr i x.1->(∀ u,T x.2.1 x.2.2=some u->v<=u)->TabI pr (fun a b y=>Dn a b y\/(a=i/\b=j/\y=x)) (T.put x.2.1 x.2.2 v):=by
  intro v hv hle
  refine ⟨?_,?_,?_⟩
  ·rw [Tb.put_ne _ _ (fun z=>h0 ⟨z.1.symm,z.2.symm⟩)];exact h.z
  ·rintro a b y (k | ⟨rfl,rfl,rfl⟩)
   ·obtain ⟨t',u',h1,h2,h3⟩:=h.le a b y k
    refine ⟨t',?_⟩
    rw [Tb.put_ne _ _ (hd a b y k)]
    by_cases e:y.2.1=x.2.1/\y.2.2=x.2.2
    ·refine ⟨v,h1,?_,?_⟩
     ·rw [e.1,e.2,Tb.put_same]
     ·have:=hle u' (by rw [<-e.1,<-e.2];exact h2)
      omega
    ·exact ⟨u',h1,by rw [Tb.put_ne _ _ e];exact h2,h3⟩
   ·exact ⟨t,v,by rw [Tb.put_ne _ _ hs];exact ht,Tb.put_same ..,by omega⟩
  ·intro a b u hu hn
   by_cases e:a=x.2.1/\b=x.2.2
   ·rw [e.1,e.2,Tb.put_same] at hu
    refine ⟨i,j,t,x,.inr ⟨rfl,rfl,rfl⟩,e.1.symm,e.2.symm,by rw [Tb.put_ne _ _ hs];exact ht,?_⟩
    injection hu with hu;omega
   ·rw [Tb.put_ne _ _ e] at hu
    obtain ⟨a',b',t',y,k,e1,e2,e3,e4⟩:=h.eq a b u hu hn
    exact ⟨a',b',t',y,.inl k,e1,e2,by rw [Tb.put_ne _ _ (hd a' b' y k)];exact e3,e4⟩
 unfold Tb.rel
 simp only [ht]
 cases hu:T x.2.1 x.2.2 with
 | none=>exact key _ rfl (fun u e=>by rw [hu] at e;cases e)
 | some u=>
  simp only []
  by_cases hlt:t+pr i x.1 < u
  ·rw [if_pos hlt]
   exact key _ rfl (fun u' e=>by rw [hu] at e;injection e with e;omega)
  ·rw [if_neg hlt]
   refine ⟨h.z,?_,?_⟩
   ·rintro a b y (k | ⟨rfl,rfl,rfl⟩)
    ·exact h.le a b y k
    ·exact ⟨t,u,ht,hu,by omega⟩
   ·intro a b u' hu' hn
    obtain ⟨a',b',t',y,k,r⟩:=h.eq a b u' hu' hn
    exact ⟨a',b',t',y,.inl k,r⟩
theorem Tb.rel_ne (pr:Nat->Sk->Int) (T:Tb) {i j a b:Nat} {x:Way} (h:¬ (a=x.2.1/\b=x.2.2)):T.rel pr i j x a b=T a b:=by
 unfold Tb.rel
 cases T i j with
 | none=>rfl
 | some t=>
  cases T x.2.1 x.2.2 with
  | none=>exact Tb.put_ne _ _ h
  | some u=>
   show (if t+pr i x.1 < u then _ else T:Tb) a b=T a b
   by_cases e:t+pr i x.1 < u
   ·rw [if_pos e];exact Tb.put_ne _ _ h
   ·rw [if_neg e]
def Fwd (m n:Nat) (E:Nat->Nat->List Way):Prop:=∀ i j,i<=m->j<=n->∀ x ∈ E i j,x.2.1<=m/\x.2.2<=n/\i<=x.2.1/\j<=x.2.2/\(i < x.2.1\/j < x.2.2)
def Bef (m n i j a b:Nat):Prop:=a<=m/\b<=n/\(a < i\/(a=i/\b < j))
def Gone (m n:Nat) (E:Nat->Nat->List Way) (i j:Nat) (ws:List Way):Nat->Nat->Way->Prop:=fun a b x=>(Bef m n i j a b/\x ∈ E a b)\/(a=i/\b=j/\x ∈ ws)
theorem Gone.zero {m n:Nat} {E:Nat->Nat->List Way} {a b:Nat} {x:Way}:¬ Gone m n E 0 0 [] a b x:=by
 rintro (⟨⟨_,_,q⟩,_⟩ | ⟨_,_,z⟩)
 ·omega
 ·simp at z
theorem Gone.next {m n:Nat} {E:Nat->Nat->List Way} {i j:Nat} (hi:i<=m) (hj:j<=n) (a b:Nat) (x:Way):Gone m n E i j (E i j) a b x ↔ Gone m n E i (j+1) [] a b x:=by
 unfold Gone Bef
 constructor
 ·rintro (⟨⟨h1,h2,h3⟩,h4⟩ | ⟨rfl,rfl,h⟩)
  ·exact .inl ⟨⟨h1,h2,by omega⟩,h4⟩
  ·exact .inl ⟨⟨hi,hj,by omega⟩,h⟩
 ·rintro (⟨⟨h1,h2,h3⟩,h4⟩ | ⟨_,_,h⟩)
  ·by_cases e:a=i/\b=j
   ·exact .inr ⟨e.1,e.2,by rw [<-e.1,<-e.2];exact h4⟩
   ·exact .inl ⟨⟨h1,h2,by omega⟩,h4⟩
  ·simp at h
theorem Gone.row {m n:Nat} {E:Nat->Nat->List Way} {i:Nat} (a b:Nat) (x:Way):Gone m n E i (n+1) [] a b x ↔ Gone m n E (i+1) 0 [] a b x:=by
 unfold Gone Bef
 constructor
 ·rintro (⟨⟨h1,h2,h3⟩,h4⟩ | ⟨_,_,h⟩)
  ·exact .inl ⟨⟨h1,h2,by omega⟩,h4⟩
  ·simp at h
 ·rintro (⟨⟨h1,h2,h3⟩,h4⟩ | ⟨_,_,h⟩)
  ·exact .inl ⟨⟨h1,h2,by omega⟩,h4⟩
  ·simp at h
def Come (m n:Nat) (E:Nat->Nat->List Way):Prop:=∀ i j,i<=m->j<=n->¬ (i=0/\j=0)->∃ a b x,Bef m n i j a b/\x ∈ E a b/\x.2.1=i/\x.2.2=j
theorem TabI.here {pr:Nat->Sk->Int} {m n i j:Nat} {E:Nat->Nat->List Way} {T:Tb} (hC:Come m n E) (h:TabI pr (Gone m n E i j []) T) (hi:i<=m) (hj:j<=n):∃ t,T i j=some t:=by
 by_cases e:i=0/\j=0
 ·exact ⟨0,by rw [e.1,e.2];exact h.z⟩
 ·obtain ⟨a,b,x,h1,h2,e1,e2⟩:=hC i j hi hj e
  obtain ⟨_,u,_,hu,_⟩:=h.le a b x (.inl ⟨h1,h2⟩)
  exact ⟨u,by rw [<-e1,<-e2];exact hu⟩
structure Least (pr:Nat->Sk->Int) (m n:Nat) (E:Nat->Nat->List Way) (F:Nat->Nat->Int):Prop where
 z:F 0 0=0
 le:∀ i j,i<=m->j<=n->∀ x ∈ E i j,F x.2.1 x.2.2<=F i j+pr i x.1
 eq:∀ i j,i<=m->j<=n->¬ (i=0/\j=0)->∃ a b x,Bef m n i j a b/\x ∈ E a b/\x.2.1=i/\x.2.2=j/\F i j=F a b+pr a x.1
theorem TabI.least {pr:Nat->Sk->Int} {m n:Nat} {E:Nat->Nat->List Way} {T:Tb} (hE:Fwd m n E) (hC:Come m n E) (h:TabI pr (Gone m n E (m+1) 0 []) T):(∀ i j,i<=m->j<=n->∃ t,T i j=some t)/\Least pr m n E (fun i j=>(T i j).getD 0):=by
 have here:∀ i j,i<=m->j<=n->∃ t,T i j=some t:=by
  intro i j hi hj
  by_cases e:i=0/\j=0
  ·exact ⟨0,by rw [e.1,e.2];exact h.z⟩
  ·obtain ⟨a,b,x,h1,h2,e1,e2⟩:=hC i j hi hj e
   obtain ⟨_,u,_,hu,_⟩:=h.le a b x (.inl ⟨⟨h1.1,h1.2.1,by have:=h1.1;omega⟩,h2⟩)
   exact ⟨u,by rw [<-e1,<-e2];exact hu⟩
 refine ⟨here,?_,?_,?_⟩
 ·show (T 0 0).getD 0=0
  rw [h.z];rfl
 ·intro i j hi hj x hx
  obtain ⟨t,u,h1,h2,h3⟩:=h.le i j x (.inl ⟨⟨hi,hj,by omega⟩,hx⟩)
  show (T x.2.1 x.2.2).getD 0<=(T i j).getD 0+_
  rw [h1,h2];exact h3
 ·intro i j hi hj hn
  obtain ⟨u,hu⟩:=here i j hi hj
  obtain ⟨a,b,t,x,hg,e1,e2,e3,e4⟩:=h.eq i j u hu hn
  obtain ⟨⟨b1,b2,_⟩,hx⟩ | ⟨_,_,z⟩:=hg
  ·have:=hE a b b1 b2 x hx
   refine ⟨a,b,x,⟨b1,b2,by omega⟩,hx,e1,e2,?_⟩
   show (T i j).getD 0=(T a b).getD 0+_
   rw [hu,e3];exact e4
  ·simp at z
structure Rest (pr:Nat->Sk->Int) (m n:Nat) (E:Nat->Nat->List Way) (R:Nat->Nat->Int):Prop where
 z:R m n=0
 le:∀ i j,i<=m->j<=n->∀ x ∈ E i j,R i j<=pr i x.1+R x.2.1 x.2.2
 eq:∀ i j,i<=m->j<=n->¬ (i=m/\j=n)->∃ x ∈ E i j,R i j=pr i x.1+R x.2.1 x.2.2
theorem rest_below {pr:Nat->Sk->Int} {m n:Nat} {E:Nat->Nat->List Way} {F R:Nat->Nat->Int} (hF:Least pr m n E F) (hR:Rest pr m n E R):∀ (k i j:Nat),i * (n+1)+j<=k->i<=m->j<=n->R 0 0<=F i j+R i j
 | k,i,j,hk,hi,hj=>by
  by_cases e:i=0/\j=0
  ·rw [e.1,e.2,hF.z];omega
  ·obtain ⟨a,b,x,⟨b1,b2,b3⟩,hx,e1,e2,e3⟩:=hF.eq i j hi hj e
   have hlt:a * (n+1)+b < i * (n+1)+j:=by
    rcases b3 with h | ⟨rfl,h⟩
    ·have:(a+1) * (n+1)<=i * (n+1):=Nat.mul_le_mul_right _ h
     rw [Nat.add_mul] at this
     omega
    ·omega
   match k,hk with
   | 0,hk=>omega
   | k+1,hk=>
    have ih:=rest_below hF hR k a b (by omega) b1 b2
    have h2:=hR.le a b b1 b2 x hx
    rw [e1,e2] at h2
    omega
theorem rest_above {pr:Nat->Sk->Int} {m n:Nat} {E:Nat->Nat->List Way} {F R:Nat->Nat->Int} (hE:Fwd m n E) (hF:Least pr m n E F) (hR:Rest pr m n E R):∀ (k i j:Nat),(m - i)+(n - j)<=k->i<=m->j<=n->F m n<=F i j+R i j
 | k,i,j,hk,hi,hj=>by
  by_cases e:i=m/\j=n
  ·rw [e.1,e.2,hR.z];omega
  ·obtain ⟨x,hx,e1⟩:=hR.eq i j hi hj e
   have hw:=hE i j hi hj x hx
   have h2:=hF.le i j hi hj x hx
   match k,hk with
   | 0,hk=>omega
   | k+1,hk=>
    have ih:=rest_above hE hF hR k x.2.1 x.2.2 (by omega) hw.1 hw.2.1
    omega
theorem rest_least {pr:Nat->Sk->Int} {m n:Nat} {E:Nat->Nat->List Way} {F R:Nat->Nat->Int} (hE:Fwd m n E) (hF:Least pr m n E F) (hR:Rest pr m n E R):F m n=R 0 0/\∀ i j,i<=m->j<=n->R 0 0<=F i j+R i j:=by
 have h1:=rest_above hE hF hR _ 0 0 (Nat.le_refl _) (Nat.zero_le _) (Nat.zero_le _)
 have h2:=rest_below hF hR _ m n (Nat.le_refl _) (Nat.le_refl _) (Nat.le_refl _)
 rw [hF.z] at h1
 rw [hR.z] at h2
 exact ⟨by omega,fun i j hi hj=>rest_below hF hR _ i j (Nat.le_refl _) hi hj⟩
theorem ways_fwd (es cs:List Str):Fwd es.length cs.length (ways es cs):=by
 intro i j hi hj x hx
 unfold ways at hx
 simp only [List.mem_append] at hx
 rcases hx with ((((h | h) | h) | h) | h) | h
 ·unfold w1 at h
  split at h
  ·rw [List.mem_singleton] at h;subst h;refine ⟨?_,?_,?_,?_,?_⟩ <;> simp only [] <;> omega
  ·simp at h
 ·unfold w2 at h
  split at h
  ·rw [List.mem_singleton] at h;subst h;refine ⟨?_,?_,?_,?_,?_⟩ <;> simp only [] <;> omega
  ·simp at h
 ·unfold w3 at h
  split at h
  ·rw [List.mem_singleton] at h;subst h;refine ⟨?_,?_,?_,?_,?_⟩ <;> simp only [] <;> omega
  ·simp at h
 ·unfold w4 at h
  split at h
  ·rw [List.mem_singleton] at h;subst h;refine ⟨?_,?_,?_,?_,?_⟩ <;> simp only [] <;> omega
  ·simp at h
 ·unfold w5 at h
  split at h
  ·rename_i hs
   rw [List.mem_singleton] at h;subst h
   unfold swapW at hs
   split at hs
   ·split at hs
    ·cases hs
    ·have hs:=of_decide_eq_true hs
     have hl:=congrArg List.length hs
     simp only [List.length_take,List.length_drop,List.length_cons,List.length_nil] at hl
     refine ⟨?_,?_,?_,?_,?_⟩ <;> simp only [] <;> omega
   ·cases hs
  ·simp at h
 ·unfold w6 at h
  obtain ⟨k,hk,rfl⟩:=List.mem_map.mp h
  have:=skips_in hk
  refine ⟨?_,?_,?_,?_,?_⟩ <;> simp only [] <;> omega
theorem ways_come (es cs:List Str):Come es.length cs.length (ways es cs):=by
 intro i j hi hj hn
 by_cases h0:j=0
 ·obtain ⟨i',rfl⟩:∃ i',i=i'+1:=⟨i - 1,by omega⟩
  refine ⟨i',j,(.lose,i'+1,j),⟨by omega,hj,by omega⟩,?_,rfl,rfl⟩
  unfold ways
  simp only [List.mem_append]
  refine .inl (.inl (.inl (.inl (.inr ?_))))
  unfold w2
  rw [if_pos (by omega)]
  exact List.mem_singleton.mpr rfl
 ·obtain ⟨j',rfl⟩:∃ j',j=j'+1:=⟨j - 1,by omega⟩
  refine ⟨i,j',(.add (gt cs j'),i,j'+1),⟨hi,by omega,by omega⟩,?_,rfl,rfl⟩
  unfold ways
  simp only [List.mem_append]
  refine .inl (.inl (.inl (.inr ?_)))
  unfold w3
  rw [if_pos (by omega)]
  exact List.mem_singleton.mpr rfl
theorem ways_some (es cs:List Str) {i j:Nat} (hi:i<=es.length) (hj:j<=cs.length) (hn:¬ (i=es.length/\j=cs.length)):ways es cs i j ≠ []:=by
 intro z
 by_cases h:i < es.length
 ·have:(Sk.lose,i+1,j) ∈ ways es cs i j:=by
   unfold ways
   simp only [List.mem_append]
   refine .inl (.inl (.inl (.inl (.inr ?_))))
   unfold w2
   rw [if_pos h]
   exact List.mem_singleton.mpr rfl
  rw [z] at this;simp at this
 ·have:(Sk.add (gt cs j),i,j+1) ∈ ways es cs i j:=by
   unfold ways
   simp only [List.mem_append]
   refine .inl (.inl (.inl (.inr ?_)))
   unfold w3
   rw [if_pos (by omega)]
   exact List.mem_singleton.mpr rfl
  rw [z] at this;simp at this
theorem ways_none (es cs:List Str):ways es cs es.length cs.length=[]:=by
 cases h:ways es cs es.length cs.length with
 | nil=>rfl
 | cons x r=>
  have:=ways_fwd es cs _ _ (Nat.le_refl _) (Nat.le_refl _) x (by rw [h];simp)
  omega
theorem TabI.step {pr:Nat->Sk->Int} {m n i j:Nat} {E:Nat->Nat->List Way} (hE:Fwd m n E) (hi:i<=m) (hj:j<=n) {done:List Way} {T:Tb} {t:Int} {x:Way} (hx:x ∈ E i j) (ht:T i j=some t) (h:TabI pr (Gone m n E i j done) T) :
  TabI pr (Gone m n E i j (done++[x])) (T.rel pr i j x)/\T.rel pr i j x i j=some t:=by
 have hx':=hE i j hi hj x hx
 refine ⟨?_,by rw [Tb.rel_ne pr T (by omega)];exact ht⟩
 refine (h.more (i:=i) (j:=j) ht (by omega) (by omega) ?_).congr ?_
 ·rintro a b y (⟨⟨_,_,q⟩,_⟩ | ⟨rfl,rfl,_⟩) <;> omega
 ·intro a b y
  unfold Gone
  simp only [List.mem_append,List.mem_singleton]
  constructor
  ·rintro ((k | ⟨e1,e2,e3⟩) | ⟨e1,e2,e3⟩)
   ·exact .inl k
   ·exact .inr ⟨e1,e2,.inl e3⟩
   ·exact .inr ⟨e1,e2,.inr e3⟩
  ·rintro (k | ⟨e1,e2,e3 | e3⟩)
   ·exact .inl (.inl k)
   ·exact .inl (.inr ⟨e1,e2,e3⟩)
   ·exact .inr ⟨e1,e2,e3⟩
theorem TabI.start {pr:Nat->Sk->Int} {m n:Nat} {E:Nat->Nat->List Way}:TabI pr (Gone m n E 0 0 []) (Tb.put (fun _ _=>none) 0 0 0):=by
 refine ⟨Tb.put_same ..,fun a b x k=>absurd k Gone.zero,fun a b u hu hn=>?_⟩
 rw [Tb.put_ne _ _ hn] at hu
 cases hu
theorem ways_turn {es cs:List Str} {i j:Nat} {x:Way} (h:x ∈ ways es cs i j) {z:Str} (e:x.1=.turn z):i < es.length:=by
 unfold ways at h
 simp only [List.mem_append] at h
 rcases h with ((((h | h) | h) | h) | h) | h
 ·unfold w1 at h
  split at h
  ·omega
  ·simp at h
 ·unfold w2 at h
  split at h
  ·omega
  ·simp at h
 ·unfold w3 at h
  split at h
  ·rw [List.mem_singleton] at h;subst h;cases e
  ·simp at h
 ·unfold w4 at h
  split at h
  ·rw [List.mem_singleton] at h;subst h;cases e
  ·simp at h
 ·unfold w5 at h
  split at h
  ·rw [List.mem_singleton] at h;subst h;cases e
  ·simp at h
 ·unfold w6 at h
  obtain ⟨k,hk,rfl⟩:=List.mem_map.mp h
  cases e
def RestAt (pr:Nat->Sk->Int) (E:Nat->Nat->List Way) (T:Tb) (a b:Nat):Prop:=∃ v,T a b=some v/\(E a b=[]->v=0)/\(∀ x ∈ E a b,∃ u,T x.2.1 x.2.2=some u/\v<=pr a x.1+u)/\(E a b ≠ []->∃ x ∈ E a b,∃ u,T x.2.1 x.2.2=some u/\v=pr a x.1+u)
def RestI (pr:Nat->Sk->Int) (m n:Nat) (E:Nat->Nat->List Way) (i j:Nat) (T:Tb):Prop:=∀ a b,a<=m->b<=n->(i < a\/(a=i/\j < b))->RestAt pr E T a b
def leastOf:List Int->Int
 | []=>0
 | x :: r=>r.foldl min x
theorem foldl_min_le:∀ (r:List Int) (x:Int),r.foldl min x<=x/\∀ y ∈ r,r.foldl min x<=y
 | [],x=>⟨Int.le_refl _,fun _ z=>nomatch z⟩
 | y :: r,x=>by
  have ih:=foldl_min_le r (min x y)
  rw [List.foldl_cons]
  refine ⟨by have:=ih.1;omega,fun z hz=>?_⟩
  rcases List.mem_cons.mp hz with rfl | hz
  ·have:=ih.1;omega
  ·exact ih.2 z hz
theorem foldl_min_mem:∀ (r:List Int) (x:Int),r.foldl min x=x\/r.foldl min x ∈ r
 | [],x=>.inl rfl
 | y :: r,x=>by
  rw [List.foldl_cons]
  rcases foldl_min_mem r (min x y) with h | h
  ·rcases Int.le_total x y with c | c
   ·rw [Int.min_eq_left c] at h ⊢;exact .inl h
   ·rw [Int.min_eq_right c] at h ⊢;exact .inr (by rw [h];exact List.mem_cons_self)
  ·exact .inr (List.mem_cons_of_mem _ h)
theorem leastOf_le {l:List Int} {y:Int} (h:y ∈ l):leastOf l<=y:=by
 cases l with
 | nil=>cases h
 | cons x r=>
  show r.foldl min x<=y
  rcases List.mem_cons.mp h with rfl | h
  ·exact (foldl_min_le r _).1
  ·exact (foldl_min_le r x).2 y h
theorem leastOf_mem {l:List Int} (h:l ≠ []):leastOf l ∈ l:=by
 cases l with
 | nil=>exact absurd rfl h
 | cons x r=>
  show r.foldl min x ∈ x :: r
  rcases foldl_min_mem r x with e | e
  ·rw [e];exact List.mem_cons_self
  ·exact List.mem_cons_of_mem _ e
theorem RestI.ends {pr:Nat->Sk->Int} {m n i j:Nat} {E:Nat->Nat->List Way} {T:Tb} (hE:Fwd m n E) (h:RestI pr m n E i j T) (hi:i<=m) (hj:j<=n) {x:Way} (hx:x ∈ E i j):∃ u,T x.2.1 x.2.2=some u:=by
 have w:=hE i j hi hj x hx
 obtain ⟨v,hv,_⟩:=h x.2.1 x.2.2 w.1 w.2.1 (by omega)
 exact ⟨v,hv⟩
theorem RestI.put {pr:Nat->Sk->Int} {m n i j:Nat} {E:Nat->Nat->List Way} {T:Tb} (hE:Fwd m n E) (h:RestI pr m n E i j T) (hi:i<=m) (hj:j<=n) :
  ∀ a b,a<=m->b<=n->(i < a\/(a=i/\j<=b))->RestAt pr E (T.put i j (leastOf ((E i j).map fun x=>pr i x.1+(T x.2.1 x.2.2).getD 0))) a b:=by
 intro a b ha hb hab
 have off:∀ x ∈ E a b,¬ (x.2.1=i/\x.2.2=j):=fun x hx=>by
  have:=hE a b ha hb x hx
  omega
 by_cases e:a=i/\b=j
 ·obtain ⟨rfl,rfl⟩:=e
  refine ⟨_,Tb.put_same ..,fun z=>?_,fun x hx=>?_,fun z=>?_⟩
  ·rw [z];rfl
  ·obtain ⟨u,hu⟩:=h.ends hE ha hb hx
   refine ⟨u,by rw [Tb.put_ne _ _ (off x hx)];exact hu,?_⟩
   refine leastOf_le (List.mem_map.mpr ⟨x,hx,?_⟩)
   rw [hu];rfl
  ·obtain ⟨x,hx,ex⟩:=List.mem_map.mp (leastOf_mem (l:=(E a b).map fun x=>pr a x.1+(T x.2.1 x.2.2).getD 0) (fun c=>z (List.map_eq_nil_iff.mp c)))
   obtain ⟨u,hu⟩:=h.ends hE ha hb hx
   refine ⟨x,hx,u,by rw [Tb.put_ne _ _ (off x hx)];exact hu,?_⟩
   rw [<-ex,hu];rfl
 ·obtain ⟨v,h1,h2,h3,h4⟩:=h a b ha hb (by omega)
  refine ⟨v,by rw [Tb.put_ne _ _ e];exact h1,h2,fun x hx=>?_,fun z=>?_⟩
  ·obtain ⟨u,hu,hl⟩:=h3 x hx
   exact ⟨u,by rw [Tb.put_ne _ _ (off x hx)];exact hu,hl⟩
  ·obtain ⟨x,hx,u,hu,he⟩:=h4 z
   exact ⟨x,hx,u,by rw [Tb.put_ne _ _ (off x hx)];exact hu,he⟩
theorem rest_of {pr:Nat->Sk->Int} {m n:Nat} {E:Nat->Nat->List Way} {T:Tb} (h:∀ a b,a<=m->b<=n->RestAt pr E T a b) (hN:E m n=[]) (hS:∀ i j,i<=m->j<=n->¬ (i=m/\j=n)->E i j ≠ []) :
  (∀ i j,i<=m->j<=n->∃ v,T i j=some v)/\Rest pr m n E (fun i j=>(T i j).getD 0):=by
 refine ⟨fun i j hi hj=>by obtain ⟨v,hv,_⟩:=h i j hi hj;exact ⟨v,hv⟩,?_,?_,?_⟩
 ·obtain ⟨v,h1,h2,_⟩:=h m n (Nat.le_refl _) (Nat.le_refl _)
  show (T m n).getD 0=0
  rw [h1,h2 hN];rfl
 ·intro i j hi hj x hx
  obtain ⟨v,h1,_,h3,_⟩:=h i j hi hj
  obtain ⟨u,hu,hl⟩:=h3 x hx
  show (T i j).getD 0<=_+(T x.2.1 x.2.2).getD 0
  rw [h1,hu];exact hl
 ·intro i j hi hj hn
  obtain ⟨v,h1,_,_,h4⟩:=h i j hi hj
  obtain ⟨x,hx,u,hu,he⟩:=h4 (hS i j hi hj hn)
  refine ⟨x,hx,?_⟩
  show (T i j).getD 0=_+(T x.2.1 x.2.2).getD 0
  rw [h1,hu];exact he
end Vm
namespace L3
open PySem PySem.Spec PyProof.Rows L2
theorem rep_fold (u:Value):∀ (k:Nat) (acc:Array Value),List.foldl (fun x1 x2=>x1++x2) acc (List.replicate k #[u])=acc++(List.replicate k u).toArray
 | 0,acc=>by simp
 | k+1,acc=>by
  rw [List.replicate_succ,List.foldl_cons,rep_fold u k,List.replicate_succ]
  apply Array.ext'
  simp
section
variable {pg:Program} {wo:World} {Ar:Around} {Ex:Value->Shared->Prop} {st:Shared}
theorem mulL_new {a:Addr} {its:Array Value} {c:Nat} {n:Int} {tk:Tok} {R:Value->Shared->Prop} (ha:st.heap.get? a=some { cls:=.type "list",data:=.seq its c })
  (h1:0<=n) (h2:n < 2 ^ 40) (h3:its.size * n.toNat<=2 ^ 24)
  (hR:R (.ref st.heap.objs.size) { st with heap:=st.heap.push { cls:=.type "list",data:=.seq (List.foldl (·++·) #[] (List.replicate (if its.isEmpty=true then 0 else n.toNat) its)) } }) :
  wpAny (model pg wo) Ar (binaryOp .Mult (.ref a) (.int n tk)) R Ex st:=by
 have fits:¬ (!Builtin.List.listFitsIndex n)=true:=by
  unfold Builtin.List.listFitsIndex
  simp
  omega
 have short:¬ Builtin.List.listTooLong (its.size * n.toNat)=true:=by
  unfold Builtin.List.listTooLong sizeLine
  simp
  omega
 have isL:st.TypeIs (.ref a) "list" := ⟨_,ha,rfl⟩
 refine wpAny_binaryOp_repeat_ref (by decide:(Value.type "list" == Value.type "int")=false) isL (fun s'=>typeIs_int s' n tk) noFill_list_mul F.fills_int_mul F.slot_int_rmul repeat_list F.slot_int_index.lookup ?_
 refine call_meets F.slot_int_rmul (typeIs_int st n tk) F.entry_int_rmul (F.args_int_rmul_2 _ _) (int___rmul___int_list n tk a its c) ?_
 refine ⟨ha,rfl,isL,?_⟩
 exact call_meets F.slot_list_mul isL F.entry_list_mul (F.args_list_mul_2 _ _) (AutoListH.list___mul___list_int_3 a its c n tk fits (by omega) short) ⟨ha,hR⟩
end
section
variable {X:Cx}
theorem vals_rep {v:V} {u:Value} (r:RelV v u):∀ k:Nat,Vals (List.replicate k v) (List.replicate k u)
 | 0=>.nil
 | k+1=>.cons r (vals_rep r k)
theorem op_mulL:OpR X (binaryOp .Mult) (fun x y H Q=>∃ (a:Addr) (v:V) (n:Nat),x=.ref a/\y=.int ((n:Nat):Int)/\H a=some (.lst [v])/\n<=100000/\∀ p,H p=none->Q (.ref p) (upd H p (.lst (List.replicate n v)))):=by
 intro pins s σ H x y w u Q I rx ry h
 obtain ⟨a,v,n,rfl,rfl,hH,hn,q⟩:=h
 obtain rfl:w=Value.ref a:=rx
 obtain ⟨t,rfl⟩:=ry
 obtain ⟨its,k,r,e,z⟩:=I.lst hH
 obtain ⟨u,rfl,ru⟩:=vals1 r
 have hf:H s.heap.objs.size=none:=I.hok.fresh (Nat.le_refl _)
 have hx:((n:Nat):Int).toNat=n:=Int.toNat_natCast n
 have hE:(if (#[u]:Array Value).isEmpty=true then 0 else ((n:Nat):Int).toNat)=n:=by rw [if_neg (by simp),hx]
 refine mulL_new (its:=#[u]) e (by omega) (by omega) (by rw [hx];show 1 * n<=2 ^ 24;omega) ?_
 rw [hE,rep_fold]
 refine ⟨.ref s.heap.objs.size,upd H s.heap.objs.size (.lst (List.replicate n v)),I.laid (t':=s.toks) (fun b u e=>Heap.get?_push_of_some _ e) (Nat.le_refl _) ?_,rfl,q _ hf⟩
 refine ⟨by rw [List.length_replicate];show n<=sizeLine;unfold sizeLine;omega,List.replicate n u,0,vals_rep ru n,?_⟩
 have:(#[]++(List.replicate n u).toArray:Array Value)=(List.replicate n u).toArray:=by simp
 rw [this]
 exact Heap.get?_push_size _ rfl
end
end L3
namespace Vm
open PySem PySem.Spec PyProof.Rows L2 L3
def ov:Option Int->V
 | none=>.non
 | some v=>.int v
def rowV (n:Nat) (f:Nat->Option Int):List V:=(List.range (n+1)).map fun j=>ov (f j)
theorem rowV_len (n:Nat) (f:Nat->Option Int):(rowV n f).length=n+1:=by unfold rowV;rw [List.length_map,List.length_range]
theorem rowV_at {n j:Nat} (f:Nat->Option Int) (h:j<=n):(rowV n f)[j]?=some (ov (f j)):=by
 unfold rowV
 rw [List.getElem?_map,List.getElem?_range (by omega)]
 rfl
theorem rowV_set {n j:Nat} (f:Nat->Option Int) (v:Int) (h:j<=n):(rowV n f).set j (.int v)=rowV n (fun b=>if b=j then some v else f b):=by
 apply List.ext_getElem?
 intro k
 by_cases hk:k<=n
 ·rw [rowV_at _ hk]
  by_cases e:k=j
  ·subst e
   rw [List.getElem?_set_self (by rw [rowV_len];omega)]
   show some (V.int v)=some (ov (if k=k then some v else f k))
   rw [if_pos rfl];rfl
  ·rw [List.getElem?_set_ne (fun z=>e z.symm),rowV_at _ hk]
   show _=some (ov (if k=j then some v else f k))
   rw [if_neg e]
 ·rw [List.getElem?_eq_none (by rw [List.length_set,rowV_len];omega),List.getElem?_eq_none (by rw [rowV_len];omega)]
structure TabAt (H:Hp) (l:Addr) (rs:List Addr) (m n:Nat) (T:Tb):Prop where
 top:H l=some (.lst (rs.map V.ref))
 len:rs.length=m+1
 row:∀ i r,rs[i]?=some r->H r=some (.lst (rowV n (T i)))
 nd:rs.Nodup
 ne:l ∉ rs
theorem TabAt.mono {H H':Hp} {l:Addr} {rs:List Addr} {m n:Nat} {T:Tb} (h:TabAt H l rs m n T) (S:Same H H'):TabAt H' l rs m n T:=⟨S _ _ h.top,h.len,fun i r e=>S _ _ (h.row i r e),h.nd,h.ne⟩
theorem TabAt.line {H:Hp} {l:Addr} {rs:List Addr} {m n:Nat} {T:Tb} (h:TabAt H l rs m n T) {i:Nat} (hi:i<=m):∃ r,rs[i]?=some r/\atI (rs.map V.ref) ((i:Nat):Int)=some (.ref r)/\H r=some (.lst (rowV n (T i))):=by
 have hl:i < rs.length:=by rw [h.len];omega
 refine ⟨rs[i],List.getElem?_eq_getElem hl,atI_nat ?_,h.row i _ (List.getElem?_eq_getElem hl)⟩
 rw [List.getElem?_map,List.getElem?_eq_getElem hl];rfl
theorem rowV_atI {n j:Nat} (f:Nat->Option Int) (h:j<=n):atI (rowV n f) ((j:Nat):Int)=some (ov (f j)):=atI_nat (rowV_at f h)
theorem ixN_nat {n j:Nat} (h:j < n):ixN n ((j:Nat):Int)=some j:=by
 unfold ixN
 have h1:¬ ((j:Int) < 0):=by omega
 simp [h1,h]
theorem nd_inj {α:Type} {l:List α} (h:l.Nodup) {i j:Nat} (hi:i < l.length) (hj:j < l.length) (e:l[i]?=l[j]?):i=j:=by
 have key:∀ (a b:Nat) (ha:a < l.length) (hb:b < l.length),a < b->l[a]? ≠ l[b]?:=by
  intro a b ha hb hab z
  have:=(List.pairwise_iff_getElem.mp h) a b ha hb hab
  rw [List.getElem?_eq_getElem ha,List.getElem?_eq_getElem hb] at z
  exact this (Option.some.inj z)
 rcases Nat.lt_trichotomy i j with c | c | c
 ·exact absurd e (key i j hi hj c)
 ·exact c
 ·exact absurd e.symm (key j i hj hi c)
theorem TabAt.put {H:Hp} {l r:Addr} {rs:List Addr} {m n i j:Nat} {T:Tb} (v:Int) (h:TabAt H l rs m n T) (hr:rs[i]?=some r) (hj:j<=n):TabAt (upd H r (.lst ((rowV n (T i)).set j (.int v)))) l rs m n (T.put i j v):=by
 have hm:r ∈ rs:=List.mem_of_getElem? hr
 have hil:i < rs.length:=(List.getElem?_eq_some_iff.mp hr).1
 refine ⟨?_,h.len,?_,h.nd,h.ne⟩
 ·rw [upd_ne (fun e=>h.ne (by rw [e];exact hm))];exact h.top
 ·intro k r' hk
  by_cases e:k=i
  ·subst e
   rw [hr] at hk
   injection hk with hk
   subst hk
   rw [upd_same,rowV_set _ _ hj]
   congr 2
   unfold rowV
   apply List.map_congr_left
   intro b _
   congr 1
   show (if b=j then some v else T k b)=if k=k/\b=j then some v else T k b
   by_cases eb:b=j
   ·rw [if_pos eb,if_pos ⟨rfl,eb⟩]
   ·rw [if_neg eb,if_neg (fun z=>eb z.2)]
  ·have hne:r' ≠ r:=fun z=>e (by
    have hkl:k < rs.length:=(List.getElem?_eq_some_iff.mp hk).1
    exact nd_inj h.nd hkl hil (by rw [hk,hr,z]))
   rw [upd_ne hne,h.row k r' hk]
   congr 2
   unfold rowV
   apply List.map_congr_left
   intro b _
   congr 1
   rw [Tb.put_ne _ _ (fun z=>e z.1)]
end Vm
namespace L2
open PySem PySem.Spec PyProof.Rows
section
variable {κ:Type} [DecidableEq κ]
def valV (kvs:List (κ × V)) (k:κ):Option V:=(kvs.find? fun kv=>decide (kv.1=k)).map (·.2)
def putK (kvs:List (κ × V)) (k:κ) (v:V):List (κ × V):=
 if (kvs.any fun kv=>decide (kv.1=k))=true then kvs.map (fun kv=>if kv.1=k then (kv.1,v) else kv) else kvs++[(k,v)]
theorem valV_pos {p:κ × V} {r:List (κ × V)} {k:κ} (e:p.1=k):valV (p :: r) k=some p.2:=by simp [valV,List.find?_cons,e]
theorem valV_neg {p:κ × V} {r:List (κ × V)} {k:κ} (e:¬ p.1=k):valV (p :: r) k=valV r k:=by simp [valV,List.find?_cons,e]
theorem length_putK (kvs:List (κ × V)) (k:κ) (v:V):(putK kvs k v).length<=kvs.length+1:=by
 unfold putK
 split
 ·rw [List.length_map];omega
 ·rw [List.length_append,List.length_cons,List.length_nil];omega
theorem RelO.getD {o:Option V} {u:Option Value} {d:V} {d':Value} (r:RelO o u) (rd:RelV d d'):RelV (o.getD d) (u.getD d'):=by
 cases o with
 | none=>cases u with
  | none=>exact rd
  | some _=>exact (show False from r).elim
 | some _=>cases u with
  | none=>exact (show False from r).elim
  | some _=>exact r
theorem KV.val {kvs:List (κ × V)} {vs:List (κ × Value)} (r:KV kvs vs) (k:κ):RelO (valV kvs k) (valueAt vs k):=by
 unfold KV at r
 induction r with
 | nil=>exact True.intro
 | @cons p q ps qs h t ih=>
  obtain ⟨h1,h2⟩:=h
  by_cases e:p.1=k
  ·have e':q.1=k:=h1.symm.trans e
   have b:valueAt (q :: qs) k=some q.2:=by simp [valueAt,List.find?_cons,e']
   rw [valV_pos e,b];exact h2
  ·have e':¬ q.1=k:=fun z=>e (h1.trans z)
   have b:valueAt (q :: qs) k=valueAt qs k:=by simp [valueAt,List.find?_cons,e']
   rw [valV_neg e,b];exact ih
theorem KV.any {kvs:List (κ × V)} {vs:List (κ × Value)} (r:KV kvs vs) (k:κ):(kvs.any fun kv=>decide (kv.1=k))=vs.any fun kv=>decide (kv.1=k):=by
 unfold KV at r
 induction r with
 | nil=>rfl
 | cons h t ih=>rw [List.any_cons,List.any_cons,ih,h.1]
theorem KV.repl {kvs:List (κ × V)} {vs:List (κ × Value)} (r:KV kvs vs) (k:κ) {y:V} {u:Value} (ry:RelV y u) :
  KV (kvs.map fun kv=>if kv.1=k then (kv.1,y) else kv) (vs.map fun kv=>if kv.1=k then (kv.1,u) else kv):=by
 unfold KV at r ⊢
 induction r with
 | nil=>exact .nil
 | @cons p q ps qs h t ih=>
  rw [List.map_cons,List.map_cons]
  refine .cons ?_ ih
  obtain ⟨h1,h2⟩:=h
  by_cases e:p.1=k
  ·rw [if_pos e,if_pos (h1.symm.trans e)];exact ⟨h1,ry⟩
  ·rw [if_neg e,if_neg (fun z=>e (h1.trans z))];exact ⟨h1,h2⟩
theorem KV.put {kvs:List (κ × V)} {vs:List (κ × Value)} (r:KV kvs vs) (k:κ) {y:V} {u:Value} (ry:RelV y u):KV (putK kvs k y) (stored vs k u):=by
 unfold putK stored
 rw [r.any k]
 by_cases e:(vs.any fun kv=>decide (kv.1=k))=true
 ·rw [if_pos e,if_pos e];exact r.repl k ry
 ·rw [if_neg e,if_neg e];exact Paired.snoc r ⟨rfl,ry⟩
end
theorem kV_is {P:Program} {w:World} {k:Key} {u:Value} (r:RelV (kV k) u):(mixKind P w).is k u=true:=by
 cases k with
 | inl i=>obtain ⟨t,e⟩:=(show ∃ t,u=Value.int i t from r);subst e;exact mixKind_int P w i t
 | inr x=>obtain ⟨t,e⟩:=(show ∃ t,u=Value.str x t from r);subst e;exact mixKind_str P w x t
section
variable {P:Program} {w:World} {H:Hp} {h:Heap} {a:Addr}
theorem rd_of {u:HO} (ok:HOk P w H h) (e:Rd H a u):ObjOk P w H h a u:=e.ok ok
theorem dk_rd {kvs:List (Key × V)} (ok:HOk P w H h) (e:Rd H a (.dK kvs)):kvs.length<=sizeLine/\(a == sysModules)=false/\∃ vs,KV kvs vs/\h.DictOf (mixKind P w) a vs:=
 show ObjOk P w H h a (.dK kvs) from rd_of ok e
theorem dk_of {kvs:List (Key × V)} (ok:HOk P w H h) (e:H a=some (.dK kvs)):kvs.length<=sizeLine/\(a == sysModules)=false/\∃ vs,KV kvs vs/\h.DictOf (mixKind P w) a vs:=dk_rd ok (.inl e)
end
section
variable {X:Cx} {pins:List (Addr × Obj)} {σ:St} {H:Hp} {s:Shared} {a:Addr} {y v:V} {u r:Value} {o:Option V} {A:Around} {E:Value->Shared->Prop}
theorem Inv.big (I:Inv X pins σ H s):sysModules < s.heap.objs.size:=by
 have h:mainGlobals < s.heap.objs.size:=(I.mod.glob.keeps I.bk).lt
 exact Nat.lt_trans (by decide) h
theorem d_write {h':Heap} {t':Nat} {ob:HO} (I:Inv X pins σ H s) (mu:Mut (H a)) (hs:Heap.SameBut a s.heap h') (he:∃ q,h'.get? a=some q) (new:ObjOk X.prog X.w (upd H a ob) h' a ob) :
  Inv X pins σ (upd H a ob) { s with heap:=h',toks:=t' }:=
 I.write (x:=a) (e:=a) mu (.inl rfl) (fun b q hb z=>(hs.2 b hb).trans z) he new
theorem dk_new {P:Program} {w:World} {H':Hp} {h':Heap} {kvs:List (Key × V)} {vs:List (Key × Value)} (z:kvs.length<=sizeLine) (hd:(a == sysModules)=false) (rel:KV kvs vs) (dd:h'.DictOf (mixKind P w) a vs) :
  ObjOk P w H' h' a (.dK kvs):=⟨z,hd,vs,rel,dd⟩
end
def NoSl (i:Expr):Prop:=∀ ov iv,subscripted i false ov iv=operate [ov,iv] (getItem ov iv)
theorem subD_of {prog:Program} {w:World} {A:Around} {E:Value->Shared->Prop} {s:Shared} {env:Env} {value slice:Expr} {pos:Pos} {T id:String} {Q:Value->Shared->Prop}
  (hl:typeLookup (.type T) "__getitem__" = pure (some (.builtin id))) (hs:NoSl slice)
  (h:wpAny (model prog w) A (eval value env) (fun o s₁=>wpAny (model prog w) A (eval slice env) (fun i s₂=>s₂.TypeIs o T/\wpAny (model prog w) A (getItem o i) Q E s₂) E s₁) E s) :
  wpAny (model prog w) A (eval (.Subscript value slice pos) env) Q E s:=by
 refine Subscript_ (wpAny_mono h (fun o s₁ h₁=>wpAny_mono h₁ (fun i s₂ h₂=>?_) fun _ _ x=>x) fun _ _ x=>x)
 obtain ⟨hT,h₂⟩:=h₂
 unfold subscriptTail
 refine wpAny_bind ?_
 rw [getitemInPython_of_ne hT.not_modules]
 refine wpAny_bind (wpAny_specialOf hT hl ?_)
 have fin:wpAny (model prog w) A (subscripted slice false o i) (fun r s₃=>wpAny (model prog w) A (letTemporaryGo value o r >>= fun _=>pure r) Q E s₃) E s₂:=by
  rw [hs o i]
  exact wpAny_operating (wpAny_mono h₂ (fun r s₃ h₃=>wpAny_bind (wpAny_letTemporaryGo (wpAny_pure h₃))) fun _ _ x=>x)
 first
  | exact wpAny_pure (wpAny_bind fin)
  | exact wpAny_bind (wpAny_pure (wpAny_bind fin))
  | exact wpAny_bind fin
theorem dk_empty {P:Program} {w:World} {H:Hp} (h:Heap) (hb:sysModules < h.objs.size):ObjOk P w H (h.push { cls:=.type "dict",data:=.dict #[] }) h.objs.size (.dK []):=
 ⟨Nat.zero_le _,beq_eq_false_iff_ne.mpr (Ne.symm (Nat.ne_of_lt hb)),[],.nil,Heap.DictOf.new h⟩
def tPairs:List (TE × TE)->St->Hp->(List (V × V)->Hp->Prop)->Prop
 | [],_,H,Q=>Q [] H
 | (tk,tv) :: r,σ,H,Q=>tk σ H fun x H1=>tv σ H1 fun y H2=>tPairs r σ H2 fun ps H3=>Q ((x,y) :: ps) H3
abbrev VV:List (V × V)->List (Value × Value)->Prop:=Paired fun p q=>RelV p.1 q.1/\RelV p.2 q.2
def PPs (X:Cx) (pos:Pos) (keys:List (Option Expr)) (values:List Expr) (trs:List (TE × TE)):Prop:=
 ∀ (pins:List (Addr × Obj)) (s:Shared) (σ:St) (H:Hp) (Q:List (V × V)->Hp->Prop),Inv X pins σ H s->tPairs trs σ H Q →
  wpAny (model X.prog X.w) X.A (evalPairs (pairTrees keys values X.env pos)) (fun vs s'=>∃ ps H',Inv X pins σ H' s'/\VV ps vs/\Q ps H') X.xe s
theorem pps_nil {X:Cx} {pos:Pos}:PPs X pos [] [] []:=fun pins s σ H Q I h=>pairTrees_nil_walk ⟨[],H,I,.nil,h⟩
theorem pps_cons {X:Cx} {pos:Pos} {k v:Expr} {ks:List (Option Expr)} {vs:List Expr} {tk tv:TE} {trs:List (TE × TE)} (hk:PE X k tk) (hv:PE X v tv) (hr:PPs X pos ks vs trs) :
  PPs X pos (some k :: ks) (v :: vs) ((tk,tv) :: trs):=fun pins s σ H Q I h=>
 pairTrees_cons_walk (thn (hk pins s σ H _ I h) fun u s1 ⟨x,H1,I1,rx,q1⟩=>thn (hv pins s1 σ H1 _ I1 q1) fun w2 s2 ⟨y,H2,I2,ry,q2⟩=>
  thn (hr pins s2 σ H2 _ I2 q2) fun ws s3 ⟨ps,H3,I3,rel,q3⟩=>⟨(x,y) :: ps,H3,I3,.cons ⟨rx,ry⟩ rel,q3⟩)
def mergeK (kvs more:List (Key × V)):List (Key × V):=more.foldl (fun acc kv=>putK acc kv.1 kv.2) kvs
theorem KV.merge:∀ {more:List (Key × V)} {rs:List (Key × Value)} {kvs:List (Key × V)} {vs:List (Key × Value)},KV more rs->KV kvs vs->KV (mergeK kvs more) (merged vs rs):=by
 intro more rs kvs vs r
 unfold KV at r
 induction r generalizing kvs vs with
 | nil=>intro q;exact q
 | @cons p q ps qs h t ih=>
  intro r0
  have e:KV (putK kvs p.1 p.2) (stored vs q.1 q.2):=by
   have:=r0.put p.1 h.2
   rw [<-h.1];exact this
  exact ih e
theorem length_mergeK:∀ (more kvs:List (Key × V)),(mergeK kvs more).length<=kvs.length+more.length
 | [],kvs=>by show kvs.length<=kvs.length+0;omega
 | p :: r,kvs=>by
  have h1:=length_mergeK r (putK kvs p.1 p.2)
  have h2:=length_putK kvs p.1 p.2
  show (mergeK (putK kvs p.1 p.2) r).length<=_
  rw [List.length_cons];omega
theorem carries_of {P:Program} {w:World}:∀ {kvs:List (Key × V)} {ws:List (Value × Value)},VV (kvs.map fun kv=>(kV kv.1,kv.2)) ws->∃ rs,Carries (mixKind P w) ws rs/\KV kvs rs
 | [],_,r=>by rw [List.map_nil] at r;cases r;exact ⟨[],True.intro,.nil⟩
 | p :: kvs,_,r=>by
  rw [List.map_cons] at r
  cases r with
  | @cons a b as bs h t=>
   obtain ⟨rs,c,q⟩:=carries_of (P:=P) (w:=w) t
   obtain ⟨b1,b2⟩:=b
   exact ⟨(p.1,b2) :: rs,⟨kV_is h.1,rfl,c⟩,.cons ⟨rfl,h.2⟩ q⟩
def tDisp (trs:List (TE × TE)):TE:=fun σ H Q=>∀ p,H p=none->tPairs trs σ (upd H p (.dK [])) fun ps H2=>H2 p=some (.dK [])/\∃ kvs:List (Key × V),ps=kvs.map (fun kv=>(kV kv.1,kv.2))/\kvs.length<=15/\Q (.ref p) (upd H2 p (.dK (mergeK [] kvs)))
theorem pe_disp {X:Cx} {pos:Pos} {keys:List (Option Expr)} {values:List Expr} {trs:List (TE × TE)} (h:PPs X pos keys values trs) (hall:keys.all (·.isSome)=true) (hl:keys.length=values.length) (h0:keys ≠ [])
  (h15:keys.length<=15):PE X (.Dict keys values pos) (tDisp trs):=by
 intro pins s σ H Q I q
 have hn:=I.hok.fresh (Nat.le_refl s.heap.objs.size)
 have I1:=I.laid (a:=s.heap.objs.size) (o:=.dK []) (h':=s.heap.push { cls:=.type "dict",data:=.dict #[] }) (t':=s.toks) (fun _ _ q=>Heap.get?_push_of_some _ q) (Nat.le_refl _) (dk_empty s.heap I.big)
 refine wpAny_Dict_walk (knd:=mixKind X.prog X.w) hall hl h0 h15 (thn (h pins _ σ _ _ I1 (q _ hn)) fun ws s2 ⟨ps,H2,I2,rel,e,kvs,ep,lk,q2⟩=>?_)
 subst ep
 obtain ⟨rs,c,rk⟩:=carries_of (P:=X.prog) (w:=X.w) rel
 obtain ⟨z,hd,vs0,r0,dd⟩:=dk_of I2.hok e
 cases r0
 refine ⟨rs,c,dd,fun h' dd' hs=>⟨.ref s.heap.objs.size,_,?_,rfl,q2⟩⟩
 have hz:(mergeK [] kvs).length<=sizeLine:=by
  have h1:=length_mergeK kvs []
  rw [List.length_nil] at h1
  rw [sizeLine_eq];omega
 have he:∃ q,h'.get? s.heap.objs.size=some q:=let ⟨q,_,_,hq,_⟩:=dd';⟨q,hq⟩
 exact d_write I2 (by rw [e];exact True.intro) hs he (dk_new hz hd (rk.merge .nil) dd')
theorem dk_item {X:Cx} {pins:List (Addr × Obj)} {σ:St} {H:Hp} {s:Shared} {a:Addr} {kvs:List (Key × V)} {k:Key} {v:V} {u:Value} {A:Around} {E:Value->Shared->Prop} {Q:Value->Shared->Prop} (I:Inv X pins σ H s) (e:H a=some (.dK kvs)) (l:valV kvs k=some v) (ry:RelV (kV k) u) (h:∀ w2 s2,Inv X pins σ H s2->RelV v w2->Q w2 s2):wpAny (model X.prog X.w) A (getItem (.ref a) u) Q E s:=by
 obtain ⟨z,hd,vs,rel,dd⟩:=dk_of I.hok e
 obtain ⟨w2,hw,rw2⟩:=RelO.some_of (v:=v) (o:=valueAt vs k) (by rw [<-l];exact rel.val k)
 exact wpAny_getItem_of (kV_is ry) dd.mapOf hw (h w2 _ (I.tok _) rw2)
def tDAt (td ty:TE):TE:=fun σ H Q=>td σ H fun x H1=>ty σ H1 fun y H2=>∃ (a:Addr) (kvs:List (Key × V)) (k:Key) (v:V),x=.ref a/\H2 a=some (.dK kvs)/\y=kV k/\valV kvs k=some v/\Q v H2
theorem pe_dat {X:Cx} {o i:Expr} {pos:Pos} {td ty:TE} (ho:PE X o td) (hi:PE X i ty) (hs:NoSl i):PE X (.Subscript o i pos) (tDAt td ty):=by
 intro pins s σ H Q I h
 refine subD_of PySem.F.slot_dict_getitem.lookup hs (thn (ho pins s σ H _ I h) fun u s1 ⟨x,H1,I1,rx,q1⟩=>thn (hi pins s1 σ H1 _ I1 q1) fun iv s2 ⟨y,H2,I2,ry,a,kvs,k,v,ex,e,ey,l,q2⟩=>?_)
 subst ex ey
 obtain rfl:u=Value.ref a:=rx
 refine ⟨?_,dk_item I2 e l ry fun w2 s3 I3 r3=>⟨v,H2,I3,r3,q2⟩⟩
 obtain ⟨_,_,vs,_,dd⟩:=dk_of I2.hok e
 exact dd.typeIs
end L2
namespace L2
open PySem PySem.Spec PyProof.Rows
section
variable {X:Cx} {pins:List (Addr × Obj)} {σ:St} {H:Hp} {s:Shared} {a:Addr} {kvs:List (Option Str × V)}
end
section
variable {X:Cx} {o e:Expr} {es:List Expr} {to:TE} {t:TA} {name:Str} {apos cpos:Pos} {id:String} {r:V->List V->Hp->VK->Prop}
end
section
variable {X:Cx}
end
end L2
namespace L2
open PySem PySem.Spec PyProof.Rows
theorem itemsT {P:Program} {w:World}:∀ {ks:List Key} {us:List Value},Vals (ks.map kV) us->ItemsAre (mixKind P w) ks us
 | [],_,r=>by rw [List.map_nil] at r;cases r;exact .nil
 | k :: ks,_,r=>by
  rw [List.map_cons] at r
  cases r with
  | cons h t=>exact .cons (kV_is h) (itemsT t)
abbrev Pk:=List Key × Addr × V
def R3 (y:Pk) (x:List Key × Addr × Value):Prop:=y.1=x.1/\y.2.1=x.2.1/\RelV y.2.2 x.2.2
def DP (P:Program) (w:World) (a:Addr) (ys:List Pk):HO:=.ext fun h=>ys.length<=sizeLine/\(a == sysModules)=false/\∃ xs:List (List Key × Addr × Value),Paired R3 ys xs ∧
 ∃ o es ep,h.get? a=some o/\o.ExactDict/\o.data=.dict es ep/\es.toList=xs.map (entryOfKey (tupleKind (mixKind P w)))/\(xs.map (·.1)).Nodup
def KeysAt (H:Hp) (ys:List Pk):Prop:=∀ y ∈ ys,H y.2.1=some (.tup (y.1.map kV))
def valP (ys:List Pk) (k:List Key):Option V:=(ys.find? fun y=>decide (y.1=k)).map (·.2.2)
def putP (ys:List Pk) (k:List Key) (b:Addr) (v:V):List Pk:=if (ys.any fun y=>decide (y.1=k))=true then ys.map (fun y=>if y.1=k then (y.1,y.2.1,v) else y) else ys++[(k,b,v)]
theorem R3.any {ys:List Pk} {xs:List (List Key × Addr × Value)} (r:Paired R3 ys xs) (k:List Key):(ys.any fun y=>decide (y.1=k))=(atKey xs k).isSome:=by
 induction r with
 | nil=>rfl
 | @cons p q ps qs h t ih=>
  by_cases e:p.1=k
  ·have e':q.1=k:=h.1.symm.trans e
   have b:atKey (q :: qs) k=some q.2:=by simp [atKey,List.find?_cons,e']
   rw [List.any_cons,decide_eq_true e,b]
   rfl
  ·have e':¬ q.1=k:=fun z=>e (h.1.trans z)
   have b:atKey (q :: qs) k=atKey qs k:=by simp [atKey,List.find?_cons,e']
   rw [List.any_cons,decide_eq_false e,b,<-ih]
   rfl
theorem R3.val {ys:List Pk} {xs:List (List Key × Addr × Value)} (r:Paired R3 ys xs) (k:List Key):RelO (valP ys k) ((atKey xs k).map (·.2)):=by
 induction r with
 | nil=>exact True.intro
 | @cons p q ps qs h t ih=>
  by_cases e:p.1=k
  ·have e':q.1=k:=h.1.symm.trans e
   have b:atKey (q :: qs) k=some q.2:=by simp [atKey,List.find?_cons,e']
   have c:valP (p :: ps) k=some p.2.2:=by simp [valP,List.find?_cons,e]
   rw [b,c]
   exact h.2.2
  ·have e':¬ q.1=k:=fun z=>e (h.1.trans z)
   have b:atKey (q :: qs) k=atKey qs k:=by simp [atKey,List.find?_cons,e']
   have c:valP (p :: ps) k=valP ps k:=by simp [valP,List.find?_cons,e]
   rw [b,c]
   exact ih
theorem R3.repl {ys:List Pk} {xs:List (List Key × Addr × Value)} (r:Paired R3 ys xs) (k:List Key) {v:V} {u:Value} (ru:RelV v u):Paired R3 (ys.map fun y=>if y.1=k then (y.1,y.2.1,v) else y) (xs.map (putAt k u)):=by
 induction r with
 | nil=>exact .nil
 | @cons p q ps qs h t ih=>
  rw [List.map_cons,List.map_cons]
  refine .cons ?_ ih
  obtain ⟨h1,h2,h3⟩:=h
  unfold putAt
  by_cases e:p.1=k
  ·rw [if_pos e,if_pos (h1.symm.trans e)];exact ⟨h1,h2,ru⟩
  ·rw [if_neg e,if_neg (fun z=>e (h1.trans z))];exact ⟨h1,h2,h3⟩
theorem R3.put {ys:List Pk} {xs:List (List Key × Addr × Value)} (r:Paired R3 ys xs) (k:List Key) (b:Addr) {v:V} {u:Value} (ru:RelV v u):Paired R3 (putP ys k b v) (storedH xs k b u):=by
 unfold putP storedH
 rw [R3.any r k]
 by_cases q:(atKey xs k).isSome=true
 ·rw [if_pos q,if_pos q];exact R3.repl r k ru
 ·rw [if_neg q,if_neg q];exact Paired.snoc r ⟨rfl,rfl,ru⟩
theorem putP_len (ys:List Pk) (k:List Key) (b:Addr) (v:V):(putP ys k b v).length<=ys.length+1:=by
 unfold putP
 split
 ·rw [List.length_map];omega
 ·rw [List.length_append];exact Nat.le_refl _
theorem KeysAt.put {H H':Hp} {ys:List Pk} {k:List Key} {b:Addr} {v:V} (h:KeysAt H ys) (hb:H b=some (.tup (k.map kV))) (hk:∀ c zs,H c=some (.tup zs)->H' c=some (.tup zs)):KeysAt H' (putP ys k b v):=by
 intro y hy
 unfold putP at hy
 split at hy
 ·obtain ⟨z,hz,rfl⟩:=List.mem_map.mp hy
  split
  ·exact hk _ _ (h z hz)
  ·exact hk _ _ (h z hz)
 ·rcases List.mem_append.mp hy with hy | hy
  ·exact hk _ _ (h y hy)
  ·rw [List.mem_singleton.mp hy]
   exact hk _ _ hb
section
variable {X:Cx} {pins:List (Addr × Obj)} {σ:St} {H:Hp} {s:Shared} {a b:Addr} {ys:List Pk} {ks:List Key}
theorem keyT (I:Inv X pins σ H s) (e:H b=some (.tup (ks.map kV))):(tupleKind (mixKind X.prog X.w)).is s.heap ks b:=by
 obtain ⟨_,its,r,o,h1,h2,n,h3⟩:=(show ObjOk X.prog X.w H s.heap b (.tup (ks.map kV)) from I.hok b _ e)
 exact ⟨o,its.toArray,n,h1,h2,h3,by simpa using itemsT r⟩
theorem dp_ok {P:Program} {w:World} {h:Heap} {xs:List (List Key × Addr × Value)} (hl:ys.length<=sizeLine) (hd:(a == sysModules)=false) (rel:Paired R3 ys xs) (dd:h.DictOfH (tupleKind (mixKind P w)) a xs):ObjOk P w H h a (DP P w a ys):=by
 obtain ⟨o,es,ep,h1,h2,h3,h4,_,h5⟩:=dd
 refine ⟨⟨hl,hd,xs,rel,o,es,ep,h1,h2,h3,h4,h5⟩,⟨o,h1⟩,fun g1 g2 x k=>?_⟩
 obtain ⟨z1,z2,ws,z3,o',es',ep',ho',r'⟩:=x
 exact ⟨z1,z2,ws,z3,o',es',ep',k _ ho',r'⟩
theorem dp_of (I:Inv X pins σ H s) (e:H a=some (DP X.prog X.w a ys)) (kk:KeysAt H ys):ys.length<=sizeLine/\(a == sysModules)=false/\∃ xs,Paired R3 ys xs/\s.heap.DictOfH (tupleKind (mixKind X.prog X.w)) a xs:=by
 obtain ⟨z1,z2,xs,r,o,es,ep,h1,h2,h3,h4,h5⟩:=(I.hok a _ e).1
 refine ⟨z1,z2,xs,r,o,es,ep,h1,h2,h3,h4,fun x hx=>?_,h5⟩
 have all:∀ {l:List Pk} {m:List (List Key × Addr × Value)},Paired R3 l m->KeysAt H l->∀ x ∈ m,(tupleKind (mixKind X.prog X.w)).is s.heap x.1 x.2.1:=by
  intro l m q
  induction q with
  | nil=>intro _ x hx;exact nomatch hx
  | @cons p q ps qs hq t ih=>
   intro kl x hx
   rcases List.mem_cons.mp hx with e | hx
   ·subst e
    rw [<-hq.1,<-hq.2.1]
    exact keyT I (kl p List.mem_cons_self)
   ·exact ih (fun y hy=>kl y (List.mem_cons_of_mem _ hy)) x hx
 exact all r kk x hx
end
section
variable {X:Cx}
def rSetP (P:Program) (w:World):V->V->V->Hp->(Hp->Prop)->Prop:=fun o i v H Q=>∃ a ys k b,o=.ref a/\i=.ref b/\H a=some (DP P w a ys)/\KeysAt H ys/\H b=some (.tup (k.map kV))/\ys.length < sizeLine/\Q (upd H a (DP P w a (putP ys k b v)))
theorem set_dictP (hu:X.A.units+64 < cLine):PSet X (rSetP X.prog X.w):=by
 intro pins s σ H o i v ov iv u Q I ro ri rv h
 obtain ⟨a,ys,k,b,rfl,rfl,e,kk,hb,l,q⟩:=h
 cases ro
 cases ri
 obtain ⟨z,hd,xs,rel,dd⟩:=dp_of I e kk
 have hz:xs.length<=sizeLine:=by rw [<-Paired.length rel];exact z
 have hl:(putP ys k b v).length<=sizeLine:=by have:=putP_len ys k b v;omega
 refine wpAny_setItem_heap (hsz:=hz) (tupleKind_room_in1 (by omega)) (keyT I hb) dd fun h' dd' hs=>⟨_,?_,q⟩
 obtain ⟨q,es,ep,hq,h2⟩:=id dd'
 exact d_write I (by rw [e];exact True.intro) hs ⟨q,hq⟩ (dp_ok hl hd (R3.put rel k b rv) dd')
def tDispP (P:Program) (w:World) (tk tv:TE):TE:=fun σ H Q=>∀ p,H p=none->tk σ (upd H p (DP P w p [])) fun x H1=>tv σ H1 fun y H2=>∃ b ks,x=.ref b/\H2 b=some (.tup (ks.map kV))/\H2 p=some (DP P w p [])/\Q (.ref p) (upd H2 p (DP P w p [(ks,b,y)]))
theorem pe_dispP {k v:Expr} {pos:Pos} {tk tv:TE} (hu:X.A.units+64 < cLine) (hk:PE X k tk) (hv:PE X v tv):PE X (.Dict [some k] [v] pos) (tDispP X.prog X.w tk tv):=by
 intro pins s σ H Q I q
 have hn:=I.hok.fresh (Nat.le_refl s.heap.objs.size)
 have I1:=I.laid (a:=s.heap.objs.size) (o:=DP X.prog X.w s.heap.objs.size []) (h':=s.heap.push { cls:=.type "dict",data:=.dict #[] }) (t':=s.toks) (fun _ _ q=>Heap.get?_push_of_some _ q) (Nat.le_refl _) (dp_ok (Nat.zero_le _) (beq_eq_false_iff_ne.mpr (Ne.symm (Nat.ne_of_lt I.big))) .nil (Heap.DictOfH.new s.heap))
 refine wpAny_Dict_any rfl rfl (by simp) (by show 1<=15;omega) (thn (pps_cons hk hv pps_nil pins _ σ _ (fun ps H2=>match ps with
  | [(x,y)]=>∃ b ks,x=.ref b/\H2 b=some (.tup (ks.map kV))/\H2 s.heap.objs.size=some (DP X.prog X.w s.heap.objs.size [])/\Q (.ref s.heap.objs.size) (upd H2 s.heap.objs.size (DP X.prog X.w s.heap.objs.size [(ks,b,y)]))
  | _=>False) I1 (q _ hn)) fun ws s2 ⟨ps,H2,I2,rel,q2⟩=>?_)
 match ps,rel,q2 with
 | [(x,y)],rel,q2=>
  obtain ⟨b,ks,ex,hb,hp,q2⟩:=q2
  subst ex
  cases rel with
  | @cons p w1 _ _ h t=>
   cases t
   obtain ⟨u1,u2⟩:=w1
   obtain ⟨r1,r2⟩:=h
   cases (show u1=Value.ref b from r1)
   obtain ⟨z,hd,xs,r3,dd⟩:=dp_of I2 hp (fun _ z=>nomatch z)
   cases r3
   unfold storeAll
   rw [List.forIn_cons]
   refine wpAny_bind (wpAny_bind (wpAny_dictSet_heap (knd:=tupleKind (mixKind X.prog X.w)) (hsz:=Nat.zero_le _) (show X.A.units < cLine by omega) (keyT I2 hb) dd fun h' dd' hs=>wpAny_pure ?_))
   simp only [List.forIn_nil]
   refine wpAny_pure ⟨.ref s.heap.objs.size,_,?_,rfl,q2⟩
   obtain ⟨q,es,ep,hq,h2⟩:=id dd'
   exact d_write I2 (by rw [hp];exact True.intro) hs ⟨q,hq⟩ (dp_ok (by show 1<=sizeLine;rw [sizeLine_eq];omega) hd (.cons ⟨rfl,rfl,r2⟩ .nil) dd')
end
end L2
namespace L3
open PySem PySem.Spec PyProof.Rows L2
section
variable {prog:Program} {w:World} {A:Around} {E:Value->Shared->Prop} {s:Shared} {z c t:Addr} {xs:Array Value} {S:Nat->Heap->Prop} {k:Nat}
end
section
variable {X:Cx} {es:List Expr} {x1:Nat} {tpos:Pos}
end
end L3
namespace L3
open PySem PySem.Spec PyProof.Rows L2
def Itv (K:PySem.W.Frag) (t:Addr) (n:Nat):It:=⟨fun i H=>∃ xs a,SqL K H t xs/\xs.length=n/\i < n/\xs[n - 1 - i]?=some a,
 fun i H x H'=>H'=H/\∀ xs,SqL K H t xs->xs[n - 1 - i]?=some x,
 fun i H=>∃ xs,SqL K H t xs/\xs.length=n/\i=n⟩
theorem turn_rev {P:Program} {w:World} {K:PySem.W.Frag} {tg:Expr} (a it:Addr) (n:Nat):Turn P w K tg (Itv K a n) [it] it (fun i h=>h.IsRevIter it a ((n:Int) - 1 - (i:Int))) where
 mem:=by simp
 obj:=fun i h st b hb=>by
  have e:b=it:=by simpa using hb
  subst e
  obtain ⟨o,e,c,d⟩:=st
  exact ⟨o,e,fun v z=>by rw [d] at z;cases z⟩
 keep:=fun i h h' st k=>st.at fun o e=>k it (by simp) o e
 item:=by
  intro X hP hw hK hc i pins s σ H E I hf st hg
  subst hP hw hK
  obtain ⟨xs,x,hq,hn,hi,hx⟩:=hg
  obtain ⟨its,rv,p,hz⟩:=I.list hq
  obtain ⟨u,hu,ru⟩:=rv.get hx
  obtain ⟨f0,f1,f2,f3,f4,f5⟩:=hf it (by simp)
  have e1:(n:Int) - 1 - (i:Int)=((n - 1 - i:Nat):Int):=by omega
  rw [e1] at st
  refine wpAny_pyNext_rev_item st p.isList (x:=u) (by simpa using hu) fun h' st' sb=>?_
  have e2:((n - 1 - i:Nat):Int) - 1=(n:Int) - 1 - ((i+1:Nat):Int):=by omega
  rw [e2] at st'
  have I1:Inv X pins σ H { s with heap:=h' }:=I.turned (t':=s.toks) (fun b o hb e=>(sb.2 b hb).trans e) f0 f1 f3 f4 f5
  obtain ⟨o,e,c,d⟩:=id st'
  exact ⟨u,rfl,go_of (s:={ s with heap:=h' }) e c d (by decide) ⟨x,H,I1,ru,⟨rfl,fun ys hy=>by rw [I.list_inj hy hq];exact hx⟩,st',fun b hb=>(hf b hb).1⟩⟩
 done:=by
  intro X hP hw hK hc i pins s σ H E I hf st hg
  subst hP hw hK
  obtain ⟨xs,hq,hn,hi⟩:=hg
  obtain ⟨f0,f1,f2,f3,f4,f5⟩:=hf it (by simp)
  have e1:(n:Int) - 1 - (i:Int)=-1:=by omega
  rw [e1] at st
  exact wpAny_pyNext_rev_end (I.ok.hd hc) st fun h' eb=>⟨rfl,I.turned (t':=s.toks) (fun b o hb e=>eb b o hb e) f0 f1 f3 f4 f5⟩
 self:=fun _ _ _ _ _ st h=>wpAny_pyIter_revIter st h
section
variable {X:Cx} {tg:Expr}
def iRev (K:PySem.W.Frag) (ta:TA):TI:=fun σ H R=>ta σ H fun vs H1=>∃ (t:Addr) (xs:List V),vs=[.ref t]/\SqL K H1 t xs/\R (Itv K t xs.length) H1
theorem pi_rev {a:Expr} {ta:TA} {p pos:Pos} (hg:Gl X "reversed") (hm:X.mg "reversed" = none) (ha:PA X [a] ta) (hs:starEach [a] X.env=[(false,eval a X.env)]:=by rfl) :
  PI X tg (.Call (.Name "reversed" p) [a] [] pos) (iRev X.K ta):=by
 intro pins s σ H R I h
 refine Call_ (ld_blt I hg hm PyProof.Rows.boot_reversed (PyProof.Rows.callWith_type1 (thn (ha pos pins s σ H _ I h) fun us s1 ⟨vs,H1,I1,r1,q1⟩=>?_) (by rw [hs];rfl) (by rfl)))
 obtain ⟨t,xs,e,hx,q⟩:=q1
 subst e
 obtain ⟨u1,rfl,r1'⟩:=r1.one
 cases r1'
 obtain ⟨us,ru,pu,zu⟩:=I1.list hx
 have hl:=ru.length
 refine call_reversed_list pu.isList ?_
 have st:(s1.heap.push (revObj t ((us.toArray.size:Int) - 1))).IsRevIter s1.heap.objs.size t ((xs.length:Int) - 1 - ((0:Nat):Int)):=by
  refine ⟨_,Heap.get?_push_size _ rfl,rfl,?_⟩
  show Data.fields #[.ref t,rawInt ((us.toArray.size:Int) - 1)]=_
  have e:((us.toArray.size:Nat):Int) - 1=(xs.length:Int) - 1 - ((0:Nat):Int):=by rw [List.size_toArray,hl];omega
  rw [e]
 refine wpAny_pyIter_revIter (s:={ s1 with heap:=s1.heap.push (revObj t ((us.toArray.size:Int) - 1)) }) st ?_
 refine ⟨_,_,_,Itv X.K t xs.length,H1,rfl,I1.kept (t':=s1.toks) (fun b o e=>Heap.get?_push_of_some _ e),turn_rev t s1.heap.objs.size xs.length,st,fun b hb=>?_,q⟩
 have e:b=s1.heap.objs.size:=by simpa using hb
 subst e
 exact I1.fpOk (Nat.le_refl _) (I1.hok.fresh (Nat.le_refl _))
end
theorem for_rev {K:PySem.W.Frag} {a:Addr} {xs:List V} {g:TG} {tb:TS} {D:Ends} {σ:L2.St} {H:Hp} (Pv:Nat->L2.St->Hp->Prop) (h0:Pv 0 σ H) (hl:∀ i σ H,i<=xs.length->Pv i σ H->SqL K H a xs)
  (hs:∀ i x σ H,i < xs.length->xs[xs.length - 1 - i]?=some x->Pv i σ H->g x σ H fun σ2 H2=>tb { D with nx:=Pv (i+1),ct:=Pv (i+1),bk:=D.nx } σ2 H2) (hd:∀ σ H,Pv xs.length σ H->D.nx σ H) :
  ∃ W:Nat->Nat->L2.St->Hp->Prop,(∃ m,W 0 m σ H)/\∀ i m σ H,W i m σ H →
   ((Itv K a xs.length).stop i H/\D.nx σ H)\/((Itv K a xs.length).go i H/\∃ N:L2.St->Hp->Prop,(∀ σ' H',N σ' H'->∃ m',m' < m/\W (i+1) m' σ' H')/\∀ x H',(Itv K a xs.length).yld i H x H'->g x σ H' fun σ2 H2=>tb { D with nx:=N,ct:=N,bk:=D.nx } σ2 H2):=by
 refine ⟨fun i m σ H=>m=xs.length - i/\i<=xs.length/\Pv i σ H,⟨xs.length,by simp,Nat.zero_le _,h0⟩,?_⟩
 rintro i m σ H ⟨rfl,hi,p⟩
 have q:=hl i σ H hi p
 rcases Nat.lt_or_ge i xs.length with hlt | hge
 ·refine .inr ⟨⟨xs,xs[xs.length - 1 - i]'(by omega),q,rfl,hlt,List.getElem?_eq_getElem _⟩,Pv (i+1),fun σ' H' p'=>⟨xs.length - (i+1),by omega,rfl,hlt,p'⟩,?_⟩
  rintro x H' ⟨rfl,hx⟩
  exact hs i x σ H' hlt (hx xs q) p
 ·have e:i=xs.length:=by omega
  subst e
  exact .inl ⟨⟨xs,q,rfl,rfl⟩,hd σ H p⟩
end L3
namespace L2
open PySem PySem.Spec PyProof.Rows
end L2
namespace L2
open PySem PySem.Spec PyProof.Rows
def tDNewP (P:Program) (w:World):TE:=fun _ H Q=>∀ p,H p=none->Q (.ref p) (upd H p (DP P w p []))
theorem pe_dnewP {X:Cx} {pos:Pos}:PE X (.Dict [] [] pos) (tDNewP X.prog X.w):=fun pins s σ H Q I h=>
 wpAny_Dict_empty ⟨.ref s.heap.objs.size,_,I.laid (a:=s.heap.objs.size) (o:=DP X.prog X.w s.heap.objs.size []) (t':=s.toks) (fun _ _ q=>Heap.get?_push_of_some _ q) (Nat.le_refl _) (dp_ok (Nat.zero_le _) (beq_eq_false_iff_ne.mpr (Ne.symm (Nat.ne_of_lt I.big))) .nil (Heap.DictOfH.new s.heap)),rfl,h _ (I.hok.fresh (Nat.le_refl _))⟩
def tDAtP (P:Program) (w:World) (td ty:TE):TE:=fun σ H Q=>td σ H fun x H1=>ty σ H1 fun y H2=>∃ (a:Addr) (ys:List Pk) (k:List Key) (b:Addr) (v:V),x=.ref a/\y=.ref b/\H2 a=some (DP P w a ys)/\KeysAt H2 ys/\H2 b=some (.tup (k.map kV))/\valP ys k=some v/\Q v H2
theorem pe_datP {X:Cx} {P:Program} {w:World} {o i:Expr} {pos:Pos} {td ty:TE} (hP:X.prog=P) (hw:X.w=w) (hu:X.A.units+64 < cLine) (ho:PE X o td) (hi:PE X i ty) (hs:NoSl i):PE X (.Subscript o i pos) (tDAtP P w td ty):=by
 subst hP hw
 intro pins s σ H Q I h
 refine subD_of PySem.F.slot_dict_getitem.lookup hs (thn (ho pins s σ H _ I h) fun u s1 ⟨x,H1,I1,rx,q1⟩=>thn (hi pins s1 σ H1 _ I1 q1) fun iv s2 ⟨y,H2,I2,ry,a,ys,k,b,v,ex,ey,e,kk,hb,l,q2⟩=>?_)
 subst ex ey
 obtain rfl:u=Value.ref a:=rx
 obtain rfl:iv=Value.ref b:=ry
 obtain ⟨z,hd,xs,rel,dd⟩:=dp_of I2 e kk
 refine ⟨dd.typeIs,?_⟩
 obtain ⟨w',hw,rw'⟩:=RelO.some_of (v:=v) (o:=(atKey xs k).map (·.2)) (by rw [<-l];exact R3.val rel k)
 obtain ⟨p,hp,hp2⟩:=Option.map_eq_some_iff.mp hw
 refine wpAny_getItem_heap (tupleKind_room_in1 (by omega)) (keyT I2 hb) dd hp ?_
 rw [hp2]
 exact ⟨v,H2,I2.tok _,rw',q2⟩
theorem valP_put (ys:List Pk) (k j:List Key) (b:Addr) (v:V):valP (putP ys k b v) j=if j=k then some v else valP ys j:=by
 unfold putP
 split
 ·rename_i h
  induction ys with
  | nil=>cases h
  | cons y r ih=>
   by_cases e:y.1=k
   ·by_cases ej:j=k
    ·rw [if_pos ej]
     simp [valP,List.find?_cons,e,ej]
    ·rw [if_neg ej]
     have n1:¬ k=j:=fun z=>ej z.symm
     have c1:valP (y :: r) j=valP r j:=by simp [valP,List.find?_cons,e,n1]
     rw [c1]
     by_cases h2:(r.any fun y=>decide (y.1=k))=true
     ·have:=ih h2
      rw [if_neg ej] at this
      rw [<-this]
      simp [valP,List.find?_cons,e,n1]
     ·have e2:(r.map fun y=>if y.1=k then (y.1,y.2.1,v) else y)=r:=by
       rw [List.map_congr_left (g:=id),List.map_id]
       intro z hz
       rw [if_neg]
       ·rfl
       ·intro ez
        exact h2 (List.any_eq_true.mpr ⟨z,hz,decide_eq_true ez⟩)
      rw [List.map_cons,e2]
      simp [valP,List.find?_cons,e,n1]
   ·have h2:(r.any fun y=>decide (y.1=k))=true:=by
     rw [List.any_cons,decide_eq_false e,Bool.false_or] at h
     exact h
    have:=ih h2
    rw [List.map_cons,if_neg e]
    by_cases ey:y.1=j
    ·have nj:¬ j=k:=fun z=>e (ey.trans z)
     rw [if_neg nj]
     simp [valP,List.find?_cons,ey]
    ·have c1:∀ l:List Pk,valP (y :: l) j=valP l j:=fun l=>by simp [valP,List.find?_cons,ey]
     rw [c1,c1]
     exact this
 ·rename_i h
  have hn:∀ z ∈ ys,¬ z.1=k:=fun z hz ez=>h (List.any_eq_true.mpr ⟨z,hz,decide_eq_true ez⟩)
  unfold valP
  rw [List.find?_append]
  by_cases ej:j=k
  ·rw [if_pos ej]
   have:ys.find? (fun y=>decide (y.1=j))=none:=List.find?_eq_none.mpr fun z hz ez=>hn z hz ((of_decide_eq_true ez).trans ej)
   rw [this]
   simp [ej]
  ·rw [if_neg ej]
   have n1:¬ k=j:=fun z=>ej z.symm
   simp [n1]
end L2
namespace PySem
open AutoSeq1 (wpAny_loadPart')
open PySem.W (KdxG kdx_collect)
end PySem
namespace L2
open PySem PySem.Spec PyProof.Rows
section
variable {X:Cx} {pins:List (Addr × Obj)} {σ:St} {H:Hp} {s:Shared}
end
theorem Paired.at {α β:Type} {F:α->β->Prop}:∀ {xs:List α} {ys:List β} {i:Nat} {x:α},Paired F xs ys->xs[i]?=some x->∃ y,ys[i]?=some y/\F x y
 | _,_,_,_,.nil,e=>by simp at e
 | _,_,0,_,.cons r _,e=>by simp at e;subst e;exact ⟨_,rfl,r⟩
 | _,_,i+1,x,.cons _ t,e=>by
  obtain ⟨u,h1,h2⟩:=Paired.at (i:=i) (x:=x) t (by simpa using e)
  exact ⟨u,by simpa using h1,h2⟩
end L2
namespace L2
open PySem PySem.Spec PyProof.Rows
def RawAt (h:Heap) (d:Addr) (es:Array DictEntry) (ep:Nat):Prop:=∃ o,h.get? d=some o/\o.ExactDict/\o.data=.dict es ep
section
variable {prog:Program} {w:World} {A:Around} {E:Value->Shared->Prop} {s:Shared} {es:Array DictEntry} {ep:Nat}
theorem RawAt.at {h h':Heap} {d:Addr} (x:RawAt h d es ep) (e:∀ o,h.get? d=some o->h'.get? d=some o):RawAt h' d es ep:=let ⟨o,ho,r⟩:=x;⟨o,e _ ho,r⟩
theorem RawAt.type {d:Addr} (x:RawAt s.heap d es ep):s.TypeIs (.ref d) "dict" := let ⟨o,ho,r,_⟩:=x;⟨o,ho,r.1⟩
theorem iter_raw {d:Addr} {Q:Value->Shared->Prop} (hd:(d == sysModules)=false) (hm:RawAt s.heap d es ep)
  (hQ:Q (.ref s.heap.objs.size) { s with heap:=s.heap.push { cls:=.type "dict_keyiterator",data:=.fields #[.ref d,.int 0 0,.int es.size 0,.int ep 0] } }):wpAny (model prog w) A (pyIter (.ref d)) Q E s:=by
 have hT:=hm.type
 obtain ⟨o,ho,hc,hdat⟩:=hm
 refine wpAny_pyIter_slot hT F.slot_dict_iter (wpAny_call_entry F.slot_dict_iter hT F.entry_dict_iter ?_ (F.args_dict_iter_1 _))
 unfold Builtin.«dict.__iter__» Builtin.Dict.dictSlotNone
 refine wpAny_bind (wpAny_bind (wpAny_notOrdered_dict hT (wpAny_pure ?_)))
 refine (show wpAny _ _ (Builtin.Dict.showsAll d >>= _) _ _ s from ?_)
 unfold Builtin.Dict.showsAll
 rw [if_neg (by rw [hd];exact Bool.false_ne_true)]
 refine wpAny_bind (wpAny_pure (wpAny_bind (wpAny_dictEntries ho hdat (wpAny_bind (wpAny_dictEpoch ho hdat ?_)))))
 refine wpAny_bind (wpAny_newObj_type (wpAny_pure ⟨_,rfl,"dict_keyiterator",_,⟨_,Heap.get?_push_size _ rfl,rfl⟩,F.slot_dict_keyiterator_next.lookup,?_⟩))
 simpa [rawInt] using hQ
theorem next_raw {it d:Addr} {i:Nat} {x:DictEntry} {Q:Option Value->Shared->Prop} (hit:s.heap.IsKeyIter it d i es.size ep) (hm:RawAt s.heap d es ep) (hx:es[i]?=some x)
  (hQ:∀ h',h'.IsKeyIter it d (i+1) es.size ep->Heap.SameBut it s.heap h'->Q (some x.key) { s with heap:=h' }):wpAny (model prog w) A (pyNext (.ref it)) Q E s:=by
 have hT:=hit.typeIs
 obtain ⟨o,ho,hc,hd⟩:=id hit
 obtain ⟨od,hod,hcd,hdd⟩:=hm
 unfold pyNext
 refine wpAny_bind (wpAny_attempt (wpAny_callSpecial?_slot (name:=Str.ofString "__next__") hT F.slot_dict_keyiterator_next (wpAny_call_entry F.slot_dict_keyiterator_next hT F.entry_dict_keyiterator_next ?_ (F.args_dict_keyiterator_next_1 _))))
 refine wpAny_bind (wpAny_pure (wpAny_bind (wpAny_bind ?_)))
 first | refine wpAny_bind (wpAny_typeNameOfWhole_keyiter hT (wpAny_pure ?_)) | refine wpAny_bind (wpAny_typeNameOf_keyiter hT (wpAny_pure ?_))
 refine wpAny_bind (wpAny_fieldsOf ho hd ?_)
 have own:Builtin.Dict_items.ownsTuple "dict_keyiterator" = false:=by decide
 simp only [own,Bool.false_eq_true,if_false]
 refine (show wpAny _ _ (if (Value.ref d == Value.none)=true then _ else _) _ _ s from ?_)
 rw [if_neg (show ¬ ((Value.ref d == Value.none)=true) from Bool.false_ne_true)]
 refine wpAny_bind (wpAny_pure (wpAny_bind (wpAny_dictEntries hod hdd ?_)))
 rw [if_neg (by simp)]
 refine wpAny_bind (wpAny_pure (wpAny_bind (wpAny_dictEpoch hod hdd ?_)))
 rw [if_neg (by simp)]
 refine wpAny_pure ?_
 simp only [show ¬ ((i:Int) < 0) from by omega,if_false,Int.toNat_natCast,hx]
 refine wpAny_bind ?_
 first | refine wpAny_bind (wpAny_typeNameOfWhole_keyiter hT (wpAny_pure ?_)) | refine wpAny_bind (wpAny_typeNameOf_keyiter hT (wpAny_pure ?_))
 refine wpAny_bind (wpAny_isOneOf_keyiter hT ?_)
 refine (show wpAny _ _ (setField (.ref it) 1 (rawInt ((i:Int)+1)) >>= _) _ _ s from wpAny_bind (wpAny_setField ho hd (by simp) ?_))
 have hit':(s.heap.update it (Obj.mapFields (·.setIfInBounds 1 (rawInt ((i:Int)+1))))).IsKeyIter it d (i+1) es.size ep:=
  ⟨_,Heap.get?_update_self _ ho (Obj.isFreed_of_fields (Obj.data_mapFields hd _)),(Obj.cls_mapFields ..).trans hc,by rw [Obj.data_mapFields hd];simp [rawInt]⟩
 refine wpAny_bind (wpAny_holding (wpAny_bind (wpAny_isOneOf_keyiter (s:={ s with heap:=s.heap.update it (Obj.mapFields (·.setIfInBounds 1 (rawInt ((i:Int)+1)))) }) hit'.typeIs ?_)))
 exact (show wpAny _ _ (pure x.key) _ _ _ from wpAny_pure (wpAny_pure ⟨_,rfl,wpAny_pure (hQ _ hit' (Heap.SameBut.update ..))⟩))
theorem end_raw {it d:Addr} {i:Nat} {Q:Option Value->Shared->Prop} (hh:A.handled=none) (hit:s.heap.IsKeyIter it d i es.size ep) (hm:RawAt s.heap d es ep) (hx:es.size<=i)
  (hQ:∀ h',Heap.ExtBut it s.heap h'->Q none { s with heap:=h' }):wpAny (model prog w) A (pyNext (.ref it)) Q E s:=by
 have hT:=hit.typeIs
 obtain ⟨o,ho,hc,hd⟩:=id hit
 obtain ⟨od,hod,hcd,hdd⟩:=hm
 unfold pyNext
 refine wpAny_bind (wpAny_attempt (wpAny_callSpecial?_slot (name:=Str.ofString "__next__") hT F.slot_dict_keyiterator_next (wpAny_call_entry F.slot_dict_keyiterator_next hT F.entry_dict_keyiterator_next ?_ (F.args_dict_keyiterator_next_1 _))))
 refine wpAny_bind (wpAny_pure (wpAny_bind (wpAny_bind ?_)))
 first | refine wpAny_bind (wpAny_typeNameOfWhole_keyiter hT (wpAny_pure ?_)) | refine wpAny_bind (wpAny_typeNameOf_keyiter hT (wpAny_pure ?_))
 refine wpAny_bind (wpAny_fieldsOf ho hd ?_)
 have own:Builtin.Dict_items.ownsTuple "dict_keyiterator" = false:=by decide
 simp only [own,Bool.false_eq_true,if_false]
 refine (show wpAny _ _ (if (Value.ref d == Value.none)=true then _ else _) _ _ s from ?_)
 rw [if_neg (show ¬ ((Value.ref d == Value.none)=true) from Bool.false_ne_true)]
 refine wpAny_bind (wpAny_pure (wpAny_bind (wpAny_dictEntries hod hdd ?_)))
 rw [if_neg (by simp)]
 refine wpAny_bind (wpAny_pure (wpAny_bind (wpAny_dictEpoch hod hdd ?_)))
 rw [if_neg (by simp)]
 refine wpAny_pure ?_
 simp only [show ¬ ((i:Int) < 0) from by omega,if_false,Int.toNat_natCast,Array.getElem?_eq_none hx]
 refine wpAny_bind ?_
 first | refine wpAny_bind (wpAny_typeNameOfWhole_keyiter hT (wpAny_pure ?_)) | refine wpAny_bind (wpAny_typeNameOf_keyiter hT (wpAny_pure ?_))
 refine (show wpAny _ _ (setField (.ref it) 0 .none >>= _) _ _ s from wpAny_bind (wpAny_setField ho hd (by simp) ?_))
 refine (show wpAny _ _ (newExc (.type "StopIteration") [] >>= _) _ _ _ from wpAny_bind ?_)
 simp only [newExc,newTuple]
 refine wpAny_bind (wpAny_newObj_type ?_ (by size_fits))
 refine wpAny_bind (m:=firstArgMember _ _) (wpAny_of_eq (a:=Value.none) (by first | rfl | (simp only [firstArgMember];rfl)) ?_)
 refine wpAny_newObj_type ?_ (by size_fits)
 simp only [raiseNew]
 refine wpAny_bind (wpAny_handled ?_)
 rw [show A.in1.handled=none from hh]
 refine wpAny_bind (wpAny_pure (wpAny_throw ?_))
 refine wpAny_bind (wpAny_isInstance (T := "StopIteration") (b:=true) ⟨_,Heap.get?_push_size _ rfl,rfl⟩ isSubtype_stop ?_)
 exact wpAny_pure (hQ _ (((Heap.SameBut.update ..).extBut.push _).push _))
theorem walks_raw (hh:A.handled=none) (I d:Addr) (hne:d ≠ I):Walks prog w A I [I,d] [I] es.size (fun i v=>(es[i]?).map (·.key)=some v) (fun i h=>h.IsKeyIter I d i es.size ep/\RawAt h d es ep) where
 sub:=fun b hb=>by simp at hb;simp [hb]
 frame:=fun _ _ _ st hk=>⟨st.1.at fun o e=>hk I (by simp) o e,st.2.at fun o e=>hk d (by simp) o e⟩
 item:=fun i s Q E hi st hQ=>by
  have hx:es[i]?=some es[i]:=Array.getElem?_eq_getElem hi
  refine next_raw st.1 st.2 hx fun h' hit' hs'=>?_
  exact hQ _ h' s.toks (by rw [hx];rfl) ⟨hit',st.2.at fun o e=>hs'.extBut d o hne e⟩ fun b o hb e=>hs'.extBut b o (fun h=>hb (by simp [h])) e
 done:=fun s Q E st hQ=>end_raw hh st.1 st.2 (Nat.le_refl _) fun h' he'=>hQ h' s.toks fun b o hb e=>he' b o (fun h=>hb (by simp [h])) e
 self:=fun _ _ _ _ st hQ=>wpAny_pyIter_keyiter st.1 hQ
theorem src_raw {d:Addr} (lo:(d == sysModules)=false):PySem.W.KdlSrc prog w "dict" d d es.size (fun i v=>(es[i]?).map (·.key)=some v) (fun h=>RawAt h d es ep) where
 type:=fun _ hm=>hm.type
 there:=fun _ hm=>by obtain ⟨o,ho,_⟩:=hm;exact ⟨Heap.lt_size ho,Heap.lt_size ho⟩
 keep:=fun _ _ hm hk=>hm.at fun o e=>hk d (.inl rfl) o e
 notList:=by decide
 notTuple:=by decide
 hint:=fun _ _ _ _ hm hq=>PySem.W.kdl_hint_dict hm.type hq
 iter:=fun _ _ hh hm=>⟨_,_,(fun _ _ hq=>iter_raw lo hm hq),walks_raw hh _ d (by obtain ⟨o,ho,_⟩:=hm;exact Nat.ne_of_lt (Heap.lt_size ho)),⟨⟨_,Heap.get?_push_size _ rfl,rfl,rfl⟩,hm.at fun o e=>Heap.get?_push_of_some _ e⟩⟩
end
theorem vals_of_at:∀ (xs:List V) (us:List Value),xs.length=us.length->(∀ (i:Nat) (x:V) (u:Value),xs[i]?=some x->us[i]?=some u->RelV x u)->Vals xs us
 | [],[],_,_=>.nil
 | x :: xs,u :: us,h,f=>.cons (f 0 x u rfl rfl) (vals_of_at xs us (Nat.succ.inj h) fun i a b ha hb=>f (i+1) a b (by simpa using ha) (by simpa using hb))
theorem call_listP {X:Cx} (hc:X.calm=true):CallR X (.type "list") (fun xs H Q=>∃ a ys,xs=[.ref a]/\H a=some (DP X.prog X.w a ys)/\∀ l,H l=none->Q (.ref l) (upd H l (.lst (ys.map fun y=>V.ref y.2.1)))):=by
 intro pins s σ H xs us Q I r h
 obtain ⟨a,ys,rfl,e,q⟩:=h
 obtain ⟨u,rfl,rx⟩:=vals1 r
 cases rx
 obtain ⟨z1,z2,xs,r3,o,es,ep,h1,h2,h3,h4,h5⟩:=(I.hok a _ e).1
 have hsz:es.size=ys.length:=by
  have:=congrArg List.length h4
  rw [List.length_map,<-Paired.length r3] at this
  simpa using this
 refine PySem.W.kdl_call (src_raw (es:=es) (ep:=ep) z2) (I.ok.hd hc) ⟨o,h1,h2,h3⟩ (by rw [hsz];exact z1) fun h' tk acc c hk hS hacc=>?_
 have hn:=I.hok.fresh (Nat.le_refl s.heap.objs.size)
 have hvals:Vals (ys.map fun y=>V.ref y.2.1) acc.toList:=by
  have hlen:acc.toList.length=ys.length:=by rw [Array.length_toList,hacc.1,hsz]
  have hat:∀ i (hi:i < ys.length),acc.toList[i]?=some (Value.ref (ys[i]'hi).2.1):=fun i hi=>by
   have hi':i < acc.size:=by rw [hacc.1,hsz];exact hi
   have e1:(es[i]?).map (fun x=>x.key)=some acc[i]:=hacc.2 i acc[i] (Array.getElem?_eq_getElem hi')
   obtain ⟨x,hx,hr1,hr2,hr3⟩:=Paired.at (xs:=ys) (ys:=xs) (i:=i) (x:=ys[i]'hi) r3 (List.getElem?_eq_getElem hi)
   have e2:es[i]?=some (entryOfKey (tupleKind (mixKind X.prog X.w)) x):=by
    have:=congrArg (fun l=>l[i]?) h4
    rw [List.getElem?_map,hx] at this
    rw [<-Array.getElem?_toList]
    exact this
   rw [e2] at e1
   have e3:Value.ref x.2.1=acc[i]:=Option.some.inj e1
   rw [Array.getElem?_toList,Array.getElem?_eq_getElem hi',<-e3,hr2]
  exact vals_of_at _ _ (by rw [List.length_map,hlen]) fun i x y hx hy=>by
   rw [List.getElem?_map] at hx
   obtain ⟨z,hz,rfl⟩:=Option.map_eq_some_iff.mp hx
   obtain ⟨hi,rfl⟩:=List.getElem?_eq_some_iff.mp hz
   rw [hat i hi] at hy
   cases hy
   rfl
 refine ⟨.ref s.heap.objs.size,_,I.laid (a:=s.heap.objs.size) (o:=.lst (ys.map fun y=>V.ref y.2.1)) (t':=tk) hk (Nat.le_refl _) ?_,rfl,q _ hn⟩
 exact ⟨by rw [List.length_map];exact z1,acc.toList,c,hvals,by rw [Array.toArray_toList];exact hS⟩
end L2
namespace L2
open PySem PySem.Spec PyProof.Rows
section
variable {X:Cx} {pins:List (Addr × Obj)} {σ:St} {H:Hp} {s:Shared} {a b:Addr} {ys:List Pk} {ks:List Key}
theorem keyS (I:Inv X pins σ H s) (e:SqT X.K H b (ks.map kV)):(tupleKind (mixKind X.prog X.w)).is s.heap ks b:=by
 obtain ⟨its,r,p,_⟩:=I.tuple e
 obtain ⟨o,h1,h2,n,h3⟩:=p
 exact ⟨o,its.toArray,n,h1,h2,h3,by simpa using itemsT r⟩
theorem dp_type (I:Inv X pins σ H s) (e:H a=some (DP X.prog X.w a ys)):s.TypeIs (.ref a) "dict"/\∀ b,Value.ref a=.ref b->∃ ob,s.heap.get? b=some ob/\ob.dict=none:=by
 obtain ⟨z1,z2,xs,r,o,es,ep,h1,h2,h3,h4,h5⟩:=(I.hok a _ e).1
 refine ⟨⟨o,h1,h2.1⟩,fun b q=>?_⟩
 cases q
 exact ⟨o,h1,h2.2.1⟩
end
def tDAtS (K:PySem.W.Frag) (P:Program) (w:World) (td ty:TE):TE:=fun σ H Q=>td σ H fun x H1=>ty σ H1 fun y H2=>∃ (a:Addr) (ys:List Pk) (k:List Key) (b:Addr) (v:V),x=.ref a/\y=.ref b/\H2 a=some (DP P w a ys)/\KeysAt H2 ys/\SqT K H2 b (k.map kV)/\valP ys k=some v/\Q v H2
theorem pe_datS {X:Cx} {K:PySem.W.Frag} {P:Program} {w:World} {o i:Expr} {pos:Pos} {td ty:TE} (hK:X.K=K) (hP:X.prog=P) (hw:X.w=w) (hu:X.A.units+64 < cLine) (ho:PE X o td) (hi:PE X i ty) (hs:NoSl i):PE X (.Subscript o i pos) (tDAtS K P w td ty):=by
 subst hP hw hK
 intro pins s σ H Q I h
 refine subD_of PySem.F.slot_dict_getitem.lookup hs (thn (ho pins s σ H _ I h) fun u s1 ⟨x,H1,I1,rx,q1⟩=>thn (hi pins s1 σ H1 _ I1 q1) fun iv s2 ⟨y,H2,I2,ry,a,ys,k,b,v,ex,ey,e,kk,hb,l,q2⟩=>?_)
 subst ex ey
 obtain rfl:u=Value.ref a:=rx
 obtain rfl:iv=Value.ref b:=ry
 obtain ⟨z,hd,xs,rel,dd⟩:=dp_of I2 e kk
 refine ⟨dd.typeIs,?_⟩
 obtain ⟨w',hw,rw'⟩:=RelO.some_of (v:=v) (o:=(atKey xs k).map (·.2)) (by rw [<-l];exact R3.val rel k)
 obtain ⟨p,hp,hp2⟩:=Option.map_eq_some_iff.mp hw
 refine wpAny_getItem_heap (tupleKind_room_in1 (by omega)) (keyS I2 hb) dd hp ?_
 rw [hp2]
 exact ⟨v,H2,I2.tok _,rw',q2⟩
section
variable {X:Cx} {o e:Expr} {es:List Expr} {to:TE} {t:TA} {name:Str} {apos cpos:Pos} {id:String} {r:V->List V->Hp->VK->Prop}
def tBMP (P:Program) (w:World) (r:V->List V->Hp->VK->Prop) (to:TE) (t:TA):TE:=fun σ H Q=>to σ H fun x H1=>∃ a ys,x=.ref a/\H1 a=some (DP P w a ys)/\t σ H1 fun xs H2=>r x xs H2 Q
theorem pe_bmP (slot:Slot "dict" name id) (hty:typeOf (.builtin id)=pure (.type "method_descriptor")) (hm:MtM X id r) (ho:PE X o to) (ha:PA X (e :: es) t)
  (hbase:attributeBase o name X.env (eval o X.env)=eval o X.env:=by rfl)
  (hfew:((backTo cpos (starEach (e :: es) X.env)).all (fun x=>!x.1) && (backToKw cpos (keywordEach [] X.env)).all (fun x=>x.1.isSome)
   && decide ((e :: es).length+([]:List Keyword).length+(if ([]:List Keyword).isEmpty then 0 else 1) < 30))=true:=by rfl)
  (hline:(apos.endLine == cpos.line)=true:=by rfl) (hs:starEach (e :: es) X.env=(false,eval e X.env) :: starEach es X.env:=by rfl) (hplain:(backTo cpos (starEach es X.env)).any (·.1)=false:=by rfl) :
  PE X (.Call (.Attribute o name apos) (e :: es) [] cpos) (tBMP X.prog X.w r to t):=by
 intro pins s σ H Q I h
 refine wpAny_Call_method_late hbase hfew hline rfl (thn (ho pins s σ H _ I h) fun v s1 ⟨x,H1,I1,r1,a,ys,ex,hd,q1⟩=>?_)
 subst ex
 cases r1
 obtain ⟨h1,h2⟩:=dp_type I1 hd
 refine ⟨"dict",id,F.plainAttrs_dict,slot,hty,h1,h2,?_⟩
 have hA:=ha cpos pins s1 σ H1 _ I1 q1
 rw [hs] at hA ⊢
 refine Calls.callWith_builtin (by show (false || (backTo cpos (starEach es X.env)).any (·.1))=false;rw [hplain] <;> rfl) (Calls.evalArgs_plain ?_)
 exact thn hA fun us s2 ⟨vs,H2,I2,r2,q2⟩=>hm pins s2 σ H2 (.ref a) vs _ us Q I2 rfl r2 q2
end
end L2
namespace Vm
open PySem PySem.Spec PyProof.Rows L2 L3
theorem best_le (val:Nat->Int):∀ k j,j<=k->val (argBest (fun a b=>decide (val a < val b)) k)<=val j
 | 0,j,h=>by rw [show j=0 by omega];exact Int.le_refl _
 | k+1,j,h=>by
  have ih:=best_le val k
  show val (if decide (val (k+1) < val (argBest (fun a b=>decide (val a < val b)) k))=true then k+1 else argBest (fun a b=>decide (val a < val b)) k)<=val j
  by_cases hb:val (k+1) < val (argBest (fun a b=>decide (val a < val b)) k)
  ·rw [if_pos (decide_eq_true hb)]
   by_cases e:j=k+1
   ·rw [e];exact Int.le_refl _
   ·have:=ih j (by omega);omega
  ·rw [if_neg (by rw [decide_eq_false hb];exact Bool.false_ne_true)]
   by_cases e:j=k+1
   ·rw [e];omega
   ·exact ih j (by omega)
theorem best_in (bt:Nat->Nat->Bool):∀ k,argBest bt k<=k
 | 0=>Nat.le_refl _
 | k+1=>by
  have ih:=best_in bt k
  show (if bt (k+1) (argBest bt k)=true then k+1 else argBest bt k)<=k+1
  by_cases h:bt (k+1) (argBest bt k)=true
  ·rw [if_pos h];exact Nat.le_refl _
  ·rw [if_neg h];omega
theorem minD_turn {pr:Program} {wd:World} {A:Around} {R:Result->Shared->Prop} {I:Addr} {fp wr:List Addr} {n:Nat} {Pp:Nat->Value->Prop} {Sp':Nat->Heap->Prop} (d:Value) (T:Walks pr wd A.in1 I fp wr n Pp Sp') (bt:Nat->Nat->Bool) (hb:CmpOf pr wd A.in1 .Lt Pp bt) (B:Addr) (hB:B ∉ fp) :
  ∀ (k j:Nat) (s:Shared) (u:Value) (c:Nat),n - (j+1)=k->j+1<=n->Sp' (j+1) s.heap->Pp (argBest bt j) u->s.heap.get? B=some ⟨.type "list",none,.seq #[u,u] c,#[]⟩ →
   (∀ v h2 tk,Pp (argBest bt (n - 1)) v->(∀ b o,b ∉ wr->b ≠ B->s.heap.get? b=some o->h2.get? b=some o)->R (.ok (.ret v)) { s with heap:=h2,toks:=tk }) →
   codeAny (model pr wd) A (.builtin "min.loop" ⟨[.ref I,.none,.ref B],[(Str.ofString "default",d)]⟩) R s:=by
 have hw:B ∉ wr:=fun h=>hB (T.sub _ h)
 have nm:(toString "min"++toString ".loop" : String) = "min.loop" := by decide
 intro k
 induction k with
 | zero=>
  intro j s u c hk hj hst hu hS hR
  have e1:j+1=n:=by omega
  refine codeAny_builtin PySem.F.entry_min_loop ?_;rw [Around.under_plainId PySem.F.plain_min_loop _]
  show wpAny _ A.in1 (seqItems? (.ref B) >>= _) _ _ s;refine wpAny_bind (wpAny_seqItems hS rfl ?_)
  show wpAny _ A.in1 (tryCatch (pyNext (.ref I)) _ >>= _) _ _ s;refine wpAny_bind (wpAny_tryCatch (T.done s _ _ (e1 ▸ hst) fun h2 tk hk2=>?_))
  have hS2:=hk2 B _ hw hS
  show wpAny _ A.in1 (updateSeq B (fun _=>#[]) >>= _) _ _ _;refine wpAny_bind (wpAny_updateSeq hS2 rfl (wpAny_bind (wpAny_letGo (wpAny_pure ?_))))
  exact hR u _ tk (by rw [<-e1];exact hu) fun b o bw bS e=>(Heap.get?_update_other _ _ (Ne.symm bS)).trans (hk2 b o bw e)
 | succ k ih=>
  intro j s u c hk hj hst hu hS hR
  have lt:j+1 < n:=by omega
  refine codeAny_builtin PySem.F.entry_min_loop ?_;rw [Around.under_plainId PySem.F.plain_min_loop _]
  show wpAny _ A.in1 (seqItems? (.ref B) >>= _) _ _ s;refine wpAny_bind (wpAny_seqItems hS rfl ?_)
  show wpAny _ A.in1 (tryCatch (pyNext (.ref I)) _ >>= _) _ _ s;refine wpAny_bind (wpAny_tryCatch (T.item (j+1) s _ _ lt hst fun v h2 tk hv hst2 hk2=>?_))
  have hS2:=hk2 B _ hw hS
  show wpAny _ A.in1 (tryCatch (holding [v,v] (richCompare .Lt v u >>= _)) _ >>= _) _ _ _;refine wpAny_bind (wpAny_tryCatch (wpAny_holding (wpAny_bind (hb (j+1) (argBest bt j) v u _ _ _ hv hu ?_))))
  refine wpAny_bind (wpAny_holding (wpAny_truthy_bool (wpAny_bind (wpAny_letGo (wpAny_pure ?_)))))
  cases hbt:bt (j+1) (argBest bt j) with
  | true=>
   simp only [if_true];refine wpAny_bind (wpAny_updateSeq hS2 rfl (wpAny_bind (wpAny_letGo ?_)));rw [nm]
   refine wpAny_pure ⟨plainId_quiet PySem.F.plain_min_loop _,ih (j+1) _ v _ (by omega) lt (T.frame _ _ _ hst2 fun b bf o e=>?_) (by simp only [argBest,hbt,if_true];exact hv) (Heap.get?_update_self _ hS2 rfl) fun v3 h3 tk3 hv3 hk3=>?_⟩
   ·exact (Heap.get?_update_other _ _ (fun h:B=b=>hB (by rw [h];exact bf))).trans e
   ·exact hR v3 h3 tk3 hv3 fun b o bw bS e=>hk3 b o bw bS ((Heap.get?_update_other _ _ (Ne.symm bS)).trans (hk2 b o bw e))
  | false=>
   simp only [Bool.false_eq_true,if_false];refine wpAny_bind (wpAny_letGo ?_);rw [nm]
   refine wpAny_pure ⟨plainId_quiet PySem.F.plain_min_loop _,ih (j+1) _ u c (by omega) lt hst2 (by simp only [argBest,hbt,Bool.false_eq_true,if_false];exact hu) hS2 fun v3 h3 tk3 hv3 hk3=>?_⟩
   exact hR v3 h3 tk3 hv3 fun b o bw bS e=>hk3 b o bw bS (hk2 b o bw e)
theorem minD_first {pr:Program} {wd:World} {A:Around} {R:Result->Shared->Prop} {I:Addr} {fp wr:List Addr} {n:Nat} {Pp:Nat->Value->Prop} {Sp':Nat->Heap->Prop} (d:Value) (T:Walks pr wd A.in1 I fp wr n Pp Sp') (bt:Nat->Nat->Bool) (hb:CmpOf pr wd A.in1 .Lt Pp bt) (B:Addr) (hB:B ∉ fp) {s:Shared} {c:Nat} (hst:Sp' 0 s.heap)
  (hS:s.heap.get? B=some ⟨.type "list",none,.seq #[] c,#[]⟩)
  (h0:n=0->∀ h2 tk,(∀ b o,b ∉ wr->b ≠ B->s.heap.get? b=some o->h2.get? b=some o)->R (.ok (.ret d)) { s with heap:=h2,toks:=tk })
  (hR:0 < n->∀ v h2 tk,Pp (argBest bt (n - 1)) v->(∀ b o,b ∉ wr->b ≠ B->s.heap.get? b=some o->h2.get? b=some o)->R (.ok (.ret v)) { s with heap:=h2,toks:=tk }) :
  codeAny (model pr wd) A (.builtin "min.loop" ⟨[.ref I,.none,.ref B],[(Str.ofString "default",d)]⟩) R s:=by
 have hw:B ∉ wr:=fun h=>hB (T.sub _ h)
 have nm:(toString "min"++toString ".loop" : String) = "min.loop" := by decide
 refine codeAny_builtin PySem.F.entry_min_loop ?_;rw [Around.under_plainId PySem.F.plain_min_loop _]
 show wpAny _ A.in1 (seqItems? (.ref B) >>= _) _ _ s;refine wpAny_bind (wpAny_seqItems hS rfl ?_)
 show wpAny _ A.in1 (tryCatch (pyNext (.ref I)) _ >>= _) _ _ s
 by_cases hn:n=0
 ·refine wpAny_bind (wpAny_tryCatch (T.done s _ _ (hn ▸ hst) fun h2 tk hk2=>?_))
  show wpAny _ A.in1 (rule _ >>= _) _ _ _
  refine wpAny_bind (wpAny_rule (wpAny_pure ?_))
  exact h0 hn h2 tk fun b o bw _ e=>hk2 b o bw e
 ·have hn:0 < n:=by omega
  refine wpAny_bind (wpAny_tryCatch (T.item 0 s _ _ hn hst fun v h2 tk hv hst2 hk2=>?_))
  have hS2:=hk2 B _ hw hS
  show wpAny _ A.in1 (updateSeq B (fun _=>#[v,v]) >>= _) _ _ _;refine wpAny_bind (wpAny_updateSeq hS2 rfl ?_);rw [nm]
  refine wpAny_pure ⟨plainId_quiet PySem.F.plain_min_loop _,minD_turn d T bt hb B hB _ 0 _ v _ rfl hn (T.frame _ _ _ hst2 fun b bf o e=>?_) hv (Heap.get?_update_self _ hS2 rfl) fun v3 h3 tk3 hv3 hk3=>?_⟩
  ·exact (Heap.get?_update_other _ _ (fun h:B=b=>hB (by rw [h];exact bf))).trans e
  ·exact hR hn v3 h3 tk3 hv3 fun b o bw bS e=>hk3 b o bw bS ((Heap.get?_update_other _ _ (Ne.symm bS)).trans (hk2 b o bw e))
theorem args_minD (a v:Value):argsOk "min" ⟨[a],[(Str.ofString "default",v)]⟩:=by unfold argsOk;kernel_rfl
theorem minD_call {pr:Program} {wd:World} {A:Around} {E:Value->Shared->Prop} {s:Shared} {x d:Value} {Q:Value->Shared->Prop}
  (h:wpAny (model pr wd) A.in1 (pyIter x) (fun it s2=>∃ I fp wr n Pp Sp' bt,it=.ref I/\Walks pr wd A.in1 I fp wr n Pp Sp'/\Sp' 0 s2.heap/\(∀ b ∈ fp,b < s2.heap.objs.size)/\CmpOf pr wd A.in1 .Lt Pp bt ∧
   (n=0->∀ h2 tk,(∀ b o,b ∉ wr->s2.heap.get? b=some o->h2.get? b=some o)->Q d { s2 with heap:=h2,toks:=tk }) ∧
   (0 < n->∀ v h2 tk,Pp (argBest bt (n - 1)) v->(∀ b o,b ∉ wr->s2.heap.get? b=some o->h2.get? b=some o)->Q v { s2 with heap:=h2,toks:=tk })) E s) :
  wpAny (model pr wd) A (call (.builtin "min") [x] [(Str.ofString "default",d)]) Q E s:=by
 have nm:(toString "min"++toString ".loop" : String) = "min.loop" := by decide
 refine kmb_tree PySem.F.kind_min PySem.F.plain_min PySem.F.entry_min (args_minD _ _) ?_
 show wpAny _ A.in1 (Builtin.Builtins.bindParams "min" ["key","default"] 0 ⟨[],[(Str.ofString "default",d)]⟩ >>= _) _ _ s
 refine wpAny_bind (wpAny_of_eq (show Builtin.Builtins.bindParams "min" ["key","default"] 0 ⟨[],[(Str.ofString "default",d)]⟩=pure [none,some d] from rfl) (wpAny_bind (wpAny_pure ?_)))
 refine wpAny_bind (wpAny_mono h (fun it s2 g=>?_) fun _ _ e=>e)
 obtain ⟨I,fp,wr,n,Pp,Sp',bt,rfl,T,hst,hfp,hb,g0,g1⟩:=g
 refine wpAny_bind (wpAny_newObj_type ?_);rw [nm]
 have nB:s2.heap.objs.size ∉ fp:=fun hm=>Nat.lt_irrefl _ (hfp _ hm)
 refine wpAny_pure ⟨plainId_quiet PySem.F.plain_min_loop _,minD_first d T bt hb s2.heap.objs.size nB (T.frame _ _ _ hst fun b _ o e=>Heap.get?_push_of_some _ e) (Heap.get?_push_size _ rfl) (fun hn h2 tk hk=>?_) fun hn v h2 tk hv hk=>?_⟩
 ·exact g0 hn h2 tk fun b o bw e=>hk b o bw (Nat.ne_of_lt (Heap.lt_size e)) (Heap.get?_push_of_some _ e)
 ·exact g1 hn v h2 tk hv fun b o bw e=>hk b o bw (Nat.ne_of_lt (Heap.lt_size e)) (Heap.get?_push_of_some _ e)
theorem comp_trip {α:Type} {K:PySem.W.Frag} {J:It} {H:Hp} {as:List α} {v:α->V} {x y z:α->V} (e:α->V) {te:TE} {Q:VK} {rest:L2.St} (S:Src J H (as.map v)) (hz:as.length<=sizeLine)
  (hp:∀ a ∈ as,∃ p,v a=.ref p/\SqT K H p [x a,y a,z a]) (he:∀ a ∈ as,∀ k:VK,k (e a) H->te (some (x a) :: some (y a) :: some (z a) :: rest) H k)
  (hq:∀ D,H D=none->Q (.ref D) (upd H D (.lst (as.map e)))):wComp J (gTup K 3 (gCons (gName 0) (gCons (gName 1) (gCons (gName 2) gNil)))) tYes te Q (none :: none :: none :: rest) H:=by
 refine ⟨fun i m σ acc H'=>H'=H/\i<=as.length/\m=as.length - i/\acc=(as.take i).map e/\∃ o1 o2 o3,σ=o1 :: o2 :: o3 :: rest,⟨as.length,rfl,Nat.zero_le _,rfl,by simp,none,none,none,rfl⟩,?_⟩
 rintro i m σ acc H' ⟨rfl,hi,rfl,rfl,o1,o2,o3,rfl⟩
 have hacc:((as.take i).map e).length<=i:=by
  rw [List.length_map,List.length_take];exact Nat.min_le_left _ _
 by_cases hlt:i < as.length
 ·refine .inr ⟨S.go i (by rw [List.length_map];exact hlt),fun w H1 yl=>?_⟩
  obtain ⟨rfl,hx⟩:=S.yld i w H1 (by rw [List.length_map];exact hlt) yl
  rw [List.getElem?_map,List.getElem?_eq_getElem hlt] at hx
  have hx':v as[i]=w:=Option.some.inj hx
  subst hx'
  have hm:as[i] ∈ as:=List.getElem_mem hlt
  obtain ⟨p,ep,hpp⟩:=hp _ hm
  have ts:as.take (i+1)=as.take i++[as[i]]:=List.take_succ_eq_append_getElem hlt
  refine ⟨p,_,ep,hpp,rfl,_,_,rfl,_,_,rfl,_,_,rfl,rfl,?_⟩
  show te (some (x as[i]) :: some (y as[i]) :: some (z as[i]) :: rest) H1 _
  refine he _ hm _ ⟨by omega,as.length - (i+1),by omega,rfl,hlt,rfl,?_,_,_,_,rfl⟩
  rw [ts,List.map_append]
  rfl
 ·have ei:i=as.length:=by omega
  subst ei
  refine .inl ⟨S.stop _ (by rw [List.length_map];exact Nat.le_refl _),by omega,fun D hD=>?_⟩
  rw [List.take_length]
  exact hq D hD
section
variable {X:Cx}
def rMinD (K:PySem.W.Frag):V->Hp->VK->Prop:=fun x H Q=>∃ (p:Addr) (ns:List Int),x=.ref p/\SqL K H p (ns.map V.int)/\(ns=[]->Q (.int 0) H)/\∀ m ∈ ns,(∀ n ∈ ns,m<=n)->Q (.int m) H
def tMinD (K:PySem.W.Frag) (te:TE):TE:=fun σ H Q=>te σ H fun x H1=>rMinD K x H1 Q
theorem pe_minD {e:Expr} {te:TE} {p pos cp kp:Pos} {cj:Nat} (hc:X.calm=true) (hg:Gl X "min") (hm:X.mg "min" = none) (he:PE X e te) (hs:starEach [e] X.env=[(false,eval e X.env)]:=by rfl) :
  PE X (.Call (.Name "min" p) [e] [⟨some "default",.Constant (.int 0) cj cp,kp⟩] pos) (tMinD X.K te):=by
 intro pins s σ H Q I h
 refine wpAny_Call_Name_kw (ld_blt I hg hm boot_min ?_ (by decide) (by decide))
 have hpa:PA X [e] (tCons te tNil):=pa_cons he pa_nil hs
 refine callWith_kw (thn (hpa pos pins s σ H (fun xs H1=>match xs with | [x]=>rMinD X.K x H1 Q | _=>False) I h) fun us s1 ⟨vs,H1,I1,r1,q1⟩=>?_) (by rw [hs];rfl) (by rw [hs];rfl) rfl rfl
 match vs,r1,q1 with
 | [x],r1,q1=>
  obtain ⟨u,rfl,ru⟩:=r1.one
  refine kws_cons (thn (pe_int pins s1 σ H1 (fun y H2=>y=V.int 0/\rMinD X.K x H2 Q) I1 ⟨rfl,q1⟩) fun d s2 ⟨y,H2,I2,ry,ey,p,ns,ex,hq,q0,qm⟩=>kws_nil ?_)
  subst ey ex
  obtain ⟨td,rfl⟩:=ry
  cases ru
  show wpAny _ _ (call (.builtin "min") [.ref p] [(Str.ofString "default",Value.int 0 td)]) _ _ _
  obtain ⟨its,rv,hp,hz⟩:=I2.list hq
  have hlt:p < s2.heap.objs.size:=by obtain ⟨_,e,_⟩:=hp.isList;exact Heap.lt_size e
  have el:its.toArray.size=ns.length:=by rw [List.size_toArray,<-rv.length,List.length_map]
  have hval:∀ (i:Nat) (v:Value),its.toArray[i]?=some v->∃ t,v=.int (ns.getD i 0) t:=fun i v hv=>by
   have hv':its[i]?=some v:=by simpa using hv
   have hi:i < ns.length:=by
    have:=(List.getElem?_eq_some_iff.mp hv').1
    rw [<-el,List.size_toArray];exact this
   obtain ⟨u,hu,ru⟩:=rv.get (i:=i) (x:=V.int ns[i]) (by rw [List.getElem?_map,List.getElem?_eq_getElem hi];rfl)
   rw [hv'] at hu;cases hu
   obtain ⟨t,rfl⟩:=ru
   exact ⟨t,by show Value.int ns[i] t=Value.int (ns.getD i 0) t;rw [List.getD_eq_getElem?_getD,List.getElem?_eq_getElem hi];rfl⟩
  refine minD_call (wpAny_pyIter_list hp.isList ?_)
  refine ⟨s2.heap.objs.size,[s2.heap.objs.size,p],[s2.heap.objs.size],its.toArray.size,_,_,fun a b=>decide (ns.getD a 0 < ns.getD b 0),rfl,Walks.list (A:=X.A.in1) (I2.ok.hd hc) _ _ (Nat.ne_of_lt hlt) its.toArray,⟨⟨_,Heap.get?_push_size _ rfl,rfl,rfl⟩,hp.isList.push _⟩,?_,CmpOf.ints_lt (fun i=>ns.getD i 0) hval,?_,?_⟩
  ·intro b hb
   simp only [List.mem_cons,List.not_mem_nil,or_false] at hb
   rw [Heap.size_push]
   rcases hb with rfl | rfl
   ·exact Nat.lt_succ_self _
   ·exact Nat.lt_succ_of_lt hlt
  ·intro hn h2 tk hk
   exact ⟨.int 0,H2,I2.kept fun b o e=>hk b o (fun z=>absurd (Heap.lt_size e) (by rw [List.mem_singleton.mp z];exact Nat.lt_irrefl _)) (Heap.get?_push_of_some _ e),⟨_,rfl⟩,q0 (List.length_eq_zero_iff.mp (by omega))⟩
  ·intro hn v h2 tk hv hk
   obtain ⟨t,rfl⟩:=hval _ _ hv
   have hb:=best_in (fun a b=>decide (ns.getD a 0 < ns.getD b 0)) (its.toArray.size - 1)
   have hle:=best_le (fun i=>ns.getD i 0) (its.toArray.size - 1)
   generalize argBest (fun a b=>decide (ns.getD a 0 < ns.getD b 0)) (its.toArray.size - 1)=k at hb hle hv
   have hkl:k < ns.length:=by omega
   refine ⟨.int (ns.getD k 0),H2,I2.kept fun b o e=>hk b o (fun z=>absurd (Heap.lt_size e) (by rw [List.mem_singleton.mp z];exact Nat.lt_irrefl _)) (Heap.get?_push_of_some _ e),⟨_,rfl⟩,qm _ ?_ fun m hm=>?_⟩
   ·rw [List.getD_eq_getElem?_getD,List.getElem?_eq_getElem hkl];exact List.getElem_mem hkl
   ·obtain ⟨j,hj,rfl⟩:=List.mem_iff_getElem.mp hm
    have:=hle j (by omega)
    rw [List.getD_eq_getElem?_getD (i:=j),List.getElem?_eq_getElem hj] at this
    exact this
end
end Vm
namespace L2
open PySem PySem.Spec PyProof.Rows
def KeysS (K:PySem.W.Frag) (H:Hp) (ys:List Pk):Prop:=∀ y ∈ ys,SqT K H y.2.1 (y.1.map kV)
def DPF (P:Program) (w:World) (a:Addr) (ys:List Pk) (o:Obj):HO:=.ext fun h=>h.get? a=some o/\ys.length<=sizeLine/\(a == sysModules)=false/\∃ xs:List (List Key × Addr × Value),Paired R3 ys xs ∧
 ∃ es ep,o.ExactDict/\o.data=.dict es ep/\es.toList=xs.map (entryOfKey (tupleKind (mixKind P w)))/\(xs.map (·.1)).Nodup
def DA (P:Program) (w:World) (H:Hp) (a:Addr) (ys:List Pk):Prop:=H a=some (DP P w a ys)\/∃ o,H a=some (DPF P w a ys o)
section
variable {X:Cx} {pins:List (Addr × Obj)} {σ:St} {H:Hp} {s:Shared} {a b:Addr} {ys:List Pk} {ks:List Key}
theorem KeysS.of {K:PySem.W.Frag} (h:KeysAt H ys):KeysS K H ys:=fun y hy=>SqT.of (h y hy)
theorem KeysS.put {K:PySem.W.Frag} {H':Hp} {k:List Key} {v:V} (h:KeysS K H ys) (hb:SqT K H b (k.map kV)) (hk:∀ c zs,SqT K H c zs->SqT K H' c zs):KeysS K H' (putP ys k b v):=by
 intro y hy
 unfold putP at hy
 split at hy
 ·obtain ⟨z,hz,rfl⟩:=List.mem_map.mp hy
  split
  ·exact hk _ _ (h z hz)
  ·exact hk _ _ (h z hz)
 ·rcases List.mem_append.mp hy with hy | hy
  ·exact hk _ _ (h y hy)
  ·rw [List.mem_singleton.mp hy]
   exact hk _ _ hb
theorem da_raw (I:Inv X pins σ H s) (e:DA X.prog X.w H a ys):ys.length<=sizeLine/\(a == sysModules)=false/\∃ xs:List (List Key × Addr × Value),Paired R3 ys xs/\∃ o es ep,s.heap.get? a=some o/\o.ExactDict/\o.data=.dict es ep/\es.toList=xs.map (entryOfKey (tupleKind (mixKind X.prog X.w)))/\(xs.map (·.1)).Nodup:=by
 rcases e with e | ⟨o,e⟩
 ·exact (I.hok a _ e).1
 ·obtain ⟨h1,z1,z2,xs,r,es,ep,h2,h3,h4,h5⟩:=(I.hok a _ e).1
  exact ⟨z1,z2,xs,r,o,es,ep,h1,h2,h3,h4,h5⟩
theorem da_of (I:Inv X pins σ H s) (e:DA X.prog X.w H a ys) (kk:KeysS X.K H ys):ys.length<=sizeLine/\(a == sysModules)=false/\∃ xs,Paired R3 ys xs/\s.heap.DictOfH (tupleKind (mixKind X.prog X.w)) a xs:=by
 obtain ⟨z1,z2,xs,r,o,es,ep,h1,h2,h3,h4,h5⟩:=da_raw I e
 refine ⟨z1,z2,xs,r,o,es,ep,h1,h2,h3,h4,fun x hx=>?_,h5⟩
 have all:∀ {l:List Pk} {m:List (List Key × Addr × Value)},Paired R3 l m->KeysS X.K H l->∀ x ∈ m,(tupleKind (mixKind X.prog X.w)).is s.heap x.1 x.2.1:=by
  intro l m q
  induction q with
  | nil=>intro _ x hx;exact nomatch hx
  | @cons p q ps qs hq t ih=>
   intro kl x hx
   rcases List.mem_cons.mp hx with e | hx
   ·subst e
    rw [<-hq.1,<-hq.2.1]
    exact keyS I (kl p List.mem_cons_self)
   ·exact ih (fun y hy=>kl y (List.mem_cons_of_mem _ hy)) x hx
 exact all r kk x hx
theorem dpf_ok {P:Program} {w:World} {h:Heap} {o:Obj} (x:h.get? a=some o/\ys.length<=sizeLine/\(a == sysModules)=false/\∃ xs:List (List Key × Addr × Value),Paired R3 ys xs ∧
 ∃ es ep,o.ExactDict/\o.data=.dict es ep/\es.toList=xs.map (entryOfKey (tupleKind (mixKind P w)))/\(xs.map (·.1)).Nodup):ObjOk P w H h a (DPF P w a ys o):=by
 refine ⟨x,⟨o,x.1⟩,fun g1 g2 y k=>?_⟩
 exact ⟨k _ y.1,y.2⟩
theorem same_self (h:Heap) (a:Addr):Heap.SameBut a h h:=by
 constructor <;> intros <;> rfl
theorem Inv.fix (I:Inv X pins σ H s) (e:H a=some (DP X.prog X.w a ys)):∃ o es ep,o.data=.dict es ep/\RawAt s.heap a es ep/\es.size=ys.length/\Inv X pins σ (upd H a (DPF X.prog X.w a ys o)) s:=by
 obtain ⟨z1,z2,xs,r,o,es,ep,h1,h2,h3,h4,h5⟩:=(I.hok a _ e).1
 refine ⟨o,es,ep,h3,⟨o,h1,h2,h3⟩,?_,d_write I (t':=s.toks) (by rw [e];exact True.intro) (same_self _ _) ⟨o,h1⟩ (dpf_ok ⟨h1,z1,z2,xs,r,es,ep,h2,h3,h4,h5⟩)⟩
 have:=congrArg List.length h4
 rw [List.length_map,<-Paired.length r] at this
 simpa using this
theorem Inv.unfix {o:Obj} (I:Inv X pins σ H s) (e:H a=some (DPF X.prog X.w a ys o)):Inv X pins σ (upd H a (DP X.prog X.w a ys)) s:=by
 obtain ⟨h1,z1,z2,xs,r,es,ep,h2,h3,h4,h5⟩:=(I.hok a _ e).1
 refine d_write I (t':=s.toks) (by rw [e];exact True.intro) (same_self _ _) ⟨o,h1⟩ ⟨⟨z1,z2,xs,r,o,es,ep,h1,h2,h3,h4,h5⟩,⟨o,h1⟩,fun g1 g2 x k=>?_⟩
 obtain ⟨z1,z2,ws,z3,o',es',ep',ho',r'⟩:=x
 exact ⟨z1,z2,ws,z3,o',es',ep',k _ ho',r'⟩
end
section
variable {X:Cx}
def tDAtQ (K:PySem.W.Frag) (P:Program) (w:World) (td ty:TE):TE:=fun σ H Q=>td σ H fun x H1=>ty σ H1 fun y H2=>∃ (a:Addr) (ys:List Pk) (k:List Key) (b:Addr) (v:V),x=.ref a/\y=.ref b/\DA P w H2 a ys/\KeysS K H2 ys/\SqT K H2 b (k.map kV)/\valP ys k=some v/\Q v H2
theorem pe_datQ {K:PySem.W.Frag} {P:Program} {w:World} {o i:Expr} {pos:Pos} {td ty:TE} (hK:X.K=K) (hP:X.prog=P) (hw:X.w=w) (hu:X.A.units+64 < cLine) (ho:PE X o td) (hi:PE X i ty) (hs:NoSl i):PE X (.Subscript o i pos) (tDAtQ K P w td ty):=by
 subst hP hw hK
 intro pins s σ H Q I h
 refine subD_of PySem.F.slot_dict_getitem.lookup hs (thn (ho pins s σ H _ I h) fun u s1 ⟨x,H1,I1,rx,q1⟩=>thn (hi pins s1 σ H1 _ I1 q1) fun iv s2 ⟨y,H2,I2,ry,a,ys,k,b,v,ex,ey,e,kk,hb,l,q2⟩=>?_)
 subst ex ey
 obtain rfl:u=Value.ref a:=rx
 obtain rfl:iv=Value.ref b:=ry
 obtain ⟨z,hd,xs,rel,dd⟩:=da_of I2 e kk
 refine ⟨dd.typeIs,?_⟩
 obtain ⟨w',hw,rw'⟩:=RelO.some_of (v:=v) (o:=(atKey xs k).map (·.2)) (by rw [<-l];exact R3.val rel k)
 obtain ⟨p,hp,hp2⟩:=Option.map_eq_some_iff.mp hw
 refine wpAny_getItem_heap (tupleKind_room_in1 (by omega)) (keyS I2 hb) dd hp ?_
 rw [hp2]
 exact ⟨v,H2,I2.tok _,rw',q2⟩
def rSetQ (K:PySem.W.Frag) (P:Program) (w:World):V->V->V->Hp->(Hp->Prop)->Prop:=fun o i v H Q=>∃ a ys k b,o=.ref a/\i=.ref b/\H a=some (DP P w a ys)/\KeysS K H ys/\SqT K H b (k.map kV)/\ys.length < sizeLine/\Q (upd H a (DP P w a (putP ys k b v)))
theorem set_dictQ (hu:X.A.units+64 < cLine):PSet X (rSetQ X.K X.prog X.w):=by
 intro pins s σ H o i v ov iv u Q I ro ri rv h
 obtain ⟨a,ys,k,b,rfl,rfl,e,kk,hb,l,q⟩:=h
 cases ro
 cases ri
 obtain ⟨z,hd,xs,rel,dd⟩:=da_of I (.inl e) kk
 have hz:xs.length<=sizeLine:=by rw [<-Paired.length rel];exact z
 have hl:(putP ys k b v).length<=sizeLine:=by have:=putP_len ys k b v;omega
 refine wpAny_setItem_heap (hsz:=hz) (tupleKind_room_in1 (by omega)) (keyS I hb) dd fun h' dd' hs=>⟨_,?_,q⟩
 obtain ⟨q,es,ep,hq,h2⟩:=id dd'
 exact d_write I (by rw [e];exact True.intro) hs ⟨q,hq⟩ (dp_ok hl hd (R3.put rel k b rv) dd')
def tDispQ (K:PySem.W.Frag) (P:Program) (w:World) (tk tv:TE):TE:=fun σ H Q=>∀ p,H p=none->tk σ (upd H p (DP P w p [])) fun x H1=>tv σ H1 fun y H2=>∃ b ks,x=.ref b/\SqT K H2 b (ks.map kV)/\H2 p=some (DP P w p [])/\Q (.ref p) (upd H2 p (DP P w p [(ks,b,y)]))
theorem pe_dispQ {k v:Expr} {pos:Pos} {tk tv:TE} (hu:X.A.units+64 < cLine) (hk:PE X k tk) (hv:PE X v tv):PE X (.Dict [some k] [v] pos) (tDispQ X.K X.prog X.w tk tv):=by
 intro pins s σ H Q I q
 have hn:=I.hok.fresh (Nat.le_refl s.heap.objs.size)
 have I1:=I.laid (a:=s.heap.objs.size) (o:=DP X.prog X.w s.heap.objs.size []) (h':=s.heap.push { cls:=.type "dict",data:=.dict #[] }) (t':=s.toks) (fun _ _ q=>Heap.get?_push_of_some _ q) (Nat.le_refl _) (dp_ok (Nat.zero_le _) (beq_eq_false_iff_ne.mpr (Ne.symm (Nat.ne_of_lt I.big))) .nil (Heap.DictOfH.new s.heap))
 refine wpAny_Dict_any rfl rfl (by simp) (by show 1<=15;omega) (thn (pps_cons hk hv pps_nil pins _ σ _ (fun ps H2=>match ps with
  | [(x,y)]=>∃ b ks,x=.ref b/\SqT X.K H2 b (ks.map kV)/\H2 s.heap.objs.size=some (DP X.prog X.w s.heap.objs.size [])/\Q (.ref s.heap.objs.size) (upd H2 s.heap.objs.size (DP X.prog X.w s.heap.objs.size [(ks,b,y)]))
  | _=>False) I1 (q _ hn)) fun ws s2 ⟨ps,H2,I2,rel,q2⟩=>?_)
 match ps,rel,q2 with
 | [(x,y)],rel,q2=>
  obtain ⟨b,ks,ex,hb,hp,q2⟩:=q2
  subst ex
  cases rel with
  | @cons p w1 _ _ h t=>
   cases t
   obtain ⟨u1,u2⟩:=w1
   obtain ⟨r1,r2⟩:=h
   cases (show u1=Value.ref b from r1)
   obtain ⟨z,hd,xs,r3,dd⟩:=dp_of I2 hp (fun _ z=>nomatch z)
   cases r3
   unfold storeAll
   rw [List.forIn_cons]
   refine wpAny_bind (wpAny_bind (wpAny_dictSet_heap (knd:=tupleKind (mixKind X.prog X.w)) (hsz:=Nat.zero_le _) (show X.A.units < cLine by omega) (keyS I2 hb) dd fun h' dd' hs=>wpAny_pure ?_))
   simp only [List.forIn_nil]
   refine wpAny_pure ⟨.ref s.heap.objs.size,_,?_,rfl,q2⟩
   obtain ⟨q,es,ep,hq,h2⟩:=id dd'
   exact d_write I2 (by rw [hp];exact True.intro) hs ⟨q,hq⟩ (dp_ok (by show 1<=sizeLine;rw [sizeLine_eq];omega) hd (.cons ⟨rfl,rfl,r2⟩ .nil) dd')
def rDGetQ (K:PySem.W.Frag) (P:Program) (w:World):V->List V->Hp->VK->Prop:=fun x vs H Q=>∃ a ys k b y,x=.ref a/\vs=[.ref b,y]/\DA P w H a ys/\KeysS K H ys/\SqT K H b (k.map kV)/\Q ((valP ys k).getD y) H
theorem mt_dgetQ (hu:X.A.units+64 < cLine):MtM X "dict.get" (rDGetQ X.K X.prog X.w):=by
 intro pins s σ H x vs v us Q I rx rv h
 obtain ⟨a,ys,k,b,y,rfl,rfl,e,kk,hb,q⟩:=h
 cases rx
 obtain ⟨u1,u2,rfl,r1,r2⟩:=vals2 rv
 cases (show u1=Value.ref b from r1)
 obtain ⟨z,hd,xs,rel,dd⟩:=da_of I e kk
 exact call_meetsIn PySem.F.slot_dict_get dd.typeIs PySem.F.entry_dict_get (PySem.F.args_dict_get_3 _ _ _) (meetsH_dict_get_default (tupleKind (mixKind X.prog X.w)) a b hd u2) ⟨tupleKind_room_in1 (by omega),k,xs,keyS I hb,dd,_,H,I.tok _,(R3.val rel k).getD r2,q⟩
end
section
variable {prog:Program} {w:World} {K:Type} [DecidableEq K] {knd:HeapKind prog w K} {A:Around} {E:Value->Shared->Prop} {s:Shared}
theorem dictSetDefault_heap {d a:Addr} {xs:List (K × Addr × Value)} {k:K} {v:Value} {Q:Value->Shared->Prop} (hu:knd.room A) (hkey:knd.is s.heap k a) (hm:s.heap.DictOfH knd d xs)
  (h1:∀ p,atKey xs k=some p->Q p.2 { s with toks:=s.toks+knd.draws k })
  (h2:atKey xs k=none->∀ h',h'.DictOfH knd d (storedH xs k a v)->Heap.SameBut d s.heap h'->Q v { s with heap:=h',toks:=s.toks+knd.draws k })
  (hsz:xs.length<=sizeLine) :
  wpAny (model prog w) A (dictSetDefault d (.ref a) v) Q E s:=by
 obtain ⟨o,es,ep,ho,hc,hd,he,his,hn⟩:=hm
 unfold dictSetDefault
 try with_reducible refine wpAny_holding ?_
 refine wpAny_bind (knd.pyHash hu hkey (wpAny_bind (wpAny_dictFind_heap (s:={ s with toks:=s.toks+knd.draws k }) hu hkey ho hd he his hn ?_ ?_)))
 ·intro hno
  have hnot:k ∉ xs.map (·.1):=not_mem_keys_of_get hno
  refine wpAny_bind (wpAny_rule (wpAny_bind (wpAny_updateDictKeys (hz:=by have e:=size_of_entries he;omega) (s:={ s with toks:=s.toks+knd.draws k }) ho hd (wpAny_pure (h2 (atKey_none_of_get hno) _ ⟨_,_,ep+1,Heap.get?_update_self _ ho (Obj.isFreed_of_dict (Obj.data_mapDictKeys hd _)),
   hc.mapDictKeys _,Obj.data_mapDictKeys hd _,?_,?_,?_⟩ (Heap.SameBut.update ..))))))
  ·rw [storedH_new (atKey_none_of_get hno)]
   simp [he,entryOfKey]
  ·rw [storedH_new (atKey_none_of_get hno)]
   intro x hx
   rcases List.mem_append.mp hx with hx | hx
   ·exact knd.keeps (his x hx) ho hd (Heap.SameBut.update ..)
   ·simp only [List.mem_singleton] at hx
    subst hx
    exact knd.keeps hkey ho hd (Heap.SameBut.update ..)
  ·rw [storedH_new (atKey_none_of_get hno)]
   rw [List.map_append,List.nodup_append]
   refine ⟨hn,by simp,?_⟩
   intro x hx y hy
   simp only [List.map_cons,List.map_nil,List.mem_singleton] at hy
   subst hy
   exact fun e=>hnot (e ▸ hx)
 ·intro j p hj
  have:=h1 _ (atKey_of_get hn hj)
  refine wpAny_bind (wpAny_dictEntries (s:={ s with toks:=s.toks+knd.draws k }) ho hd ?_)
  rw [entry_at he j,hj]
  exact wpAny_bind (wpAny_rule (wpAny_pure this))
theorem meetsH_setdefault (knd:HeapKind prog w K) (d a:Addr) (hd:(d == sysModules)=false) (dflt:Value) :
  MeetsIn prog w (Builtin.«dict.setdefault» ⟨[.ref d,.ref a,dflt],[]⟩) (fun A R s=>knd.room A.in1/\∃ k xs,knd.is s.heap k a/\s.heap.DictOfH knd d xs/\xs.length<=sizeLine ∧
   (∀ p,atKey xs k=some p->R (.ok (.ret p.2)) { s with toks:=s.toks+knd.draws k }) ∧
   (atKey xs k=none->∀ h',h'.DictOfH knd d (storedH xs k a dflt)->Heap.SameBut d s.heap h'->R (.ok (.ret dflt)) { s with heap:=h',toks:=s.toks+knd.draws k })):=
 .of_wp fun A R s ⟨hu,k,xs,hkey,hm,hz,h1,h2⟩=>by
  unfold Builtin.«dict.setdefault»
  refine wpAny_bind ?_
  unfold Builtin.Dict.keyAndDefault
  refine wpAny_bind (wpAny_notOrdered_dict hm.typeIs ?_)
  show wpAny _ _ (pure (d,Value.ref a,some dflt)) _ _ s
  refine wpAny_pure ?_
  show wpAny _ _ (if (d == sysModules)=true then _ else (dictSetDefault d (.ref a) dflt >>= _)) _ _ s
  rw [if_neg (by rw [hd];exact Bool.false_ne_true)]
  exact wpAny_bind (dictSetDefault_heap (hsz:=hz) hu hkey hm (fun v hv=>wpAny_pure ⟨v.2,rfl,h1 v hv⟩) fun hn h' hm' hs'=>wpAny_pure ⟨dflt,rfl,h2 hn h' hm' hs'⟩)
end
section
variable {X:Cx}
def rSetD (K:PySem.W.Frag) (P:Program) (w:World):V->List V->Hp->VK->Prop:=fun x vs H Q=>∃ a ys k b y,x=.ref a/\vs=[.ref b,y]/\H a=some (DP P w a ys)/\KeysS K H ys/\SqT K H b (k.map kV)/\ys.length < sizeLine/\(∀ v,valP ys k=some v->Q v H)/\(valP ys k=none->Q y (upd H a (DP P w a (putP ys k b y))))
theorem mt_setdef (hu:X.A.units+64 < cLine):MtM X "dict.setdefault" (rSetD X.K X.prog X.w):=by
 intro pins s σ H x vs v us Q I rx rv h
 obtain ⟨a,ys,k,b,y,rfl,rfl,e,kk,hb,l,q1,q2⟩:=h
 cases rx
 obtain ⟨u1,u2,rfl,r1,r2⟩:=vals2 rv
 cases (show u1=Value.ref b from r1)
 obtain ⟨z,hd,xs,rel,dd⟩:=da_of I (.inl e) kk
 have hz:xs.length<=sizeLine:=by rw [<-Paired.length rel];exact z
 have hv:=R3.val rel k
 refine call_meetsIn PySem.F.slot_dict_setdefault dd.typeIs PySem.F.entry_dict_setdefault (PySem.F.args_dict_setdefault_3 _ _ _) (meetsH_setdefault (tupleKind (mixKind X.prog X.w)) a b hd u2) ⟨tupleKind_room_in1 (by omega),k,xs,keyS I hb,dd,hz,fun p hp=>?_,fun hn h' dd' hs=>?_⟩
 ·rw [hp] at hv
  cases hy:valP ys k with
  | none=>rw [hy] at hv;exact hv.elim
  | some v=>rw [hy] at hv;exact ⟨v,H,I.tok _,hv,q1 v hy⟩
 ·rw [hn] at hv
  cases hy:valP ys k with
  | some v=>rw [hy] at hv;exact hv.elim
  | none=>
   have hl:(putP ys k b y).length<=sizeLine:=by have:=putP_len ys k b y;omega
   refine ⟨y,_,?_,r2,q2 hy⟩
   obtain ⟨q,es,ep,hq,h2⟩:=id dd'
   exact d_write I (by rw [e];exact True.intro) hs ⟨q,hq⟩ (dp_ok hl hd (R3.put rel k b r2) dd')
end
def Itk (P:Program) (w:World) (d:Addr) (ys:List Pk) (o:Obj):It:=
 ⟨fun i H=>H d=some (DPF P w d ys o)/\i < ys.length,fun i H x H'=>H'=H/\∃ y,ys[i]?=some y/\x=.ref y.2.1,fun i H=>H d=some (DPF P w d ys o)/\ys.length<=i⟩
theorem turn_keys {P:Program} {w:World} {K:PySem.W.Frag} {tg:Expr} {ys:List Pk} {o:Obj} {es:Array DictEntry} {ep:Nat} (d it:Addr) (hd:o.data=.dict es ep) (hz:es.size=ys.length):Turn P w K tg (Itk P w d ys o) [it] it (fun i h=>h.IsKeyIter it d i es.size ep) where
 mem:=by simp
 obj:=fun i h st b hb=>by
  obtain rfl:b=it:=by simpa using hb
  obtain ⟨o,e,c,d⟩:=st
  exact ⟨o,e,fun v z=>by rw [d] at z;cases z⟩
 keep:=fun i h h' st k=>st.at fun o e=>k it (by simp) o e
 item:=by
  intro X hP hw hK hc i pins s σ H E I hf st hg
  subst hP hw hK
  obtain ⟨hq,hi⟩:=hg
  obtain ⟨h1,z1,z2,xs,r,es',ep',h2,h3,h4,h5⟩:=(I.hok d _ hq).1
  rw [hd] at h3
  cases h3
  obtain ⟨f0,f1,f2,f3,f4,f5⟩:=hf it (by simp)
  obtain ⟨x,hx,hr1,hr2,hr3⟩:=Paired.at (xs:=ys) (ys:=xs) (i:=i) (x:=ys[i]'hi) r (List.getElem?_eq_getElem hi)
  have e2:es[i]?=some (entryOfKey (tupleKind (mixKind X.prog X.w)) x):=by
   have:=congrArg (fun l=>l[i]?) h4
   rw [List.getElem?_map,hx] at this
   rw [<-Array.getElem?_toList]
   exact this
  refine next_raw st ⟨o,h1,h2,hd⟩ e2 fun h' st' sb=>?_
  have I1:Inv X pins σ H { s with heap:=h' }:=I.turned (t':=s.toks) (fun b o hb e=>(sb.2 b hb).trans e) f0 f1 f3 f4 f5
  obtain ⟨o',e,c,d'⟩:=id st'
  refine ⟨_,rfl,go_of (s:={ s with heap:=h' }) e c d' (by decide) ⟨.ref (ys[i]'hi).2.1,H,I1,?_,⟨rfl,_,List.getElem?_eq_getElem hi,rfl⟩,st',fun b hb=>(hf b hb).1⟩⟩
  rw [hr2]
  rfl
 done:=by
  intro X hP hw hK hc i pins s σ H E I hf st hg
  subst hP hw hK
  obtain ⟨hq,hi⟩:=hg
  obtain ⟨h1,z1,z2,xs,r,es',ep',h2,h3,h4,h5⟩:=(I.hok d _ hq).1
  rw [hd] at h3
  cases h3
  obtain ⟨f0,f1,f2,f3,f4,f5⟩:=hf it (by simp)
  exact end_raw (I.ok.hd hc) st ⟨o,h1,h2,hd⟩ (by omega) fun h' eb=>⟨rfl,I.turned (t':=s.toks) (fun b o hb e=>eb b o hb e) f0 f1 f3 f4 f5⟩
 self:=fun _ _ _ _ _ st h=>wpAny_pyIter_keyiter st h
section
variable {X:Cx} {tg:Expr}
def iKeys (P:Program) (w:World) (te:TE):TI:=fun σ H R=>te σ H fun x H1=>∃ (a:Addr) (ys:List Pk),x=.ref a/\H1 a=some (DP P w a ys)/\∀ o,R (Itk P w a ys o) (upd H1 a (DPF P w a ys o))
theorem pi_keysP {e:Expr} {te:TE} (he:PE X e te):PI X tg e (iKeys X.prog X.w te):=by
 intro pins s σ H R I h
 refine thn (he pins s σ H _ I h) fun v s1 ⟨x,H1,I1,rx,a,ys,ex,hd,q⟩=>?_
 subst ex
 cases rx
 obtain ⟨_,z2,_⟩:=(I1.hok a _ hd).1
 obtain ⟨o,es,ep,hdat,raw,hz,I2⟩:=I1.fix hd
 refine iter_raw z2 raw ?_
 have st:(s1.heap.push { cls:=.type "dict_keyiterator",data:=.fields #[.ref a,.int 0 0,.int es.size 0,.int ep 0] }).IsKeyIter s1.heap.objs.size a 0 es.size ep:=⟨_,Heap.get?_push_size _ rfl,rfl,rfl⟩
 refine ⟨_,_,_,Itk X.prog X.w a ys o,_,rfl,I2.kept (t':=s1.toks) (fun b o e=>Heap.get?_push_of_some _ e),turn_keys a s1.heap.objs.size hdat hz,st,fun b hb=>?_,q o⟩
 have e:b=s1.heap.objs.size:=by simpa using hb
 subst e
 exact I2.fpOk (Nat.le_refl _) (I2.hok.fresh (Nat.le_refl _))
def tWk (P:Program) (w:World) (t:TS):TS:=fun D σ H=>∃ (a:Addr) (ys:List Pk),t { nx:=fun σ H=>∃ o,H a=some (DPF P w a ys o)/\D.nx σ (upd H a (DP P w a ys)),rt:=fun v H=>∃ o,H a=some (DPF P w a ys o)/\D.rt v (upd H a (DP P w a ys)),bk:=fun σ H=>∃ o,H a=some (DPF P w a ys o)/\D.bk σ (upd H a (DP P w a ys)),ct:=fun σ H=>∃ o,H a=some (DPF P w a ys o)/\D.ct σ (upd H a (DP P w a ys)) } σ H
theorem ps_wk {st:Stmt} {t:TS} (h:PS X st t):PS X st (tWk X.prog X.w t):=by
 intro pins s σ H D I q
 obtain ⟨a,ys,q⟩:=q
 refine thn (h pins s σ H _ I q) fun f s1 hf=>?_
 cases f with
 | next=>obtain ⟨σ7,H7,I7,o,e,n7⟩:=hf;exact ⟨σ7,_,I7.unfix e,n7⟩
 | cont=>obtain ⟨σ7,H7,I7,o,e,n7⟩:=hf;exact ⟨σ7,_,I7.unfix e,n7⟩
 | brk=>obtain ⟨σ7,H7,I7,o,e,n7⟩:=hf;exact ⟨σ7,_,I7.unfix e,n7⟩
 | ret v=>obtain ⟨x7,σ7,H7,I7,r7,o,e,n7⟩:=hf;exact ⟨x7,σ7,_,I7.unfix e,r7,n7⟩
end
theorem for_keys {P:Program} {w:World} {d:Addr} {ys:List Pk} {o:Obj} {g:TG} {tb:TS} {D:Ends} {σ:St} {H:Hp} (Pv:Nat->St->Hp->Prop) (h0:Pv 0 σ H) (hl:∀ i σ H,i<=ys.length->Pv i σ H->H d=some (DPF P w d ys o))
  (hs:∀ i y σ H,ys[i]?=some y->Pv i σ H->g (.ref y.2.1) σ H fun σ2 H2=>tb { D with nx:=Pv (i+1),ct:=Pv (i+1),bk:=D.nx } σ2 H2) (hd:∀ σ H,Pv ys.length σ H->D.nx σ H) :
  ∃ W:Nat->Nat->St->Hp->Prop,(∃ m,W 0 m σ H)/\∀ i m σ H,W i m σ H →
   ((Itk P w d ys o).stop i H/\D.nx σ H)\/((Itk P w d ys o).go i H/\∃ N:St->Hp->Prop,(∀ σ' H',N σ' H'->∃ m',m' < m/\W (i+1) m' σ' H')/\∀ x H',(Itk P w d ys o).yld i H x H'->g x σ H' fun σ2 H2=>tb { D with nx:=N,ct:=N,bk:=D.nx } σ2 H2):=by
 refine ⟨fun i m σ H=>m=ys.length - i/\i<=ys.length/\Pv i σ H,⟨ys.length,by simp,Nat.zero_le _,h0⟩,?_⟩
 rintro i m σ H ⟨rfl,hi,p⟩
 have q:=hl i σ H hi p
 by_cases hlt:i < ys.length
 ·refine .inr ⟨⟨q,hlt⟩,Pv (i+1),fun σ' H' p'=>⟨ys.length - (i+1),by omega,rfl,hlt,p'⟩,?_⟩
  rintro x H' ⟨rfl,y,hy,rfl⟩
  exact hs i y σ _ hy p
 ·have e:i=ys.length:=by omega
  subst e
  exact .inl ⟨⟨q,Nat.le_refl _⟩,hd σ H p⟩
end L2
namespace L3
open PySem PySem.Spec PyProof.Rows L2
end L3
namespace PySem
open PyProof.Rows PySem.W
section
variable {prog:Program} {w:World} {A:Around} {E:Value->Shared->Prop} {s:Shared}
section
variable {Kt:Type} [DecidableEq Kt] {knd:HeapKind prog w Kt} {d a:Addr} {k:Kt} {xs:List (Kt × Addr × Value)}
theorem notIn_heap {Q:Value->Shared->Prop} (hu:knd.room A.in1) (hkey:knd.is s.heap k a) (hd:(d == sysModules)=false) (hm:s.heap.DictOfH knd d xs)
  (h:Q (.bool (!(atKey xs k).isSome)) { s with toks:=s.toks+knd.draws k }):wpAny (model prog w) A (compareOp .NotIn (.ref a) (.ref d)) Q E s:=by
 have hT:=hm.typeIs
 refine NotIn_slot hT slot_dict_contains (wpAny_call_entry slot_dict_contains hT entry_dict_contains ?_ (args_dict_contains _ _))
 refine (show wpAny _ _ (dictGet d (.ref a) >>= _) _ _ s from wpAny_bind (wpAny_dictGet_heap hu hkey hm ?_))
 cases hf:atKey xs k with
 | some p=>
  rw [hf] at h
  exact (show wpAny _ _ (ret (.bool true)) _ _ _ from wpAny_pure ⟨_,rfl,wpAny_truthy_bool h⟩)
 | none=>
  rw [hf] at h
  exact (show wpAny _ _ (Builtin.Dict.pendingKey? d (.ref a) >>= _) _ _ _ from wpAny_bind (wpAny_pendingKey_other hd (wpAny_pure ⟨_,rfl,wpAny_truthy_bool h⟩)))
end
def PairAt (h:Heap) (v:Value) (x y:Int):Prop:=∃ a o t u n,v=.ref a/\h.get? a=some o/\o.cls=.type "tuple"/\o.data=.seq #[.int x t,.int y u] n
theorem PairAt.mono {h h':Heap} {v:Value} {x y:Int} (p:PairAt h v x y) (k:∀ b o,h.get? b=some o->o.cls=.type "tuple"->h'.get? b=some o):PairAt h' v x y:=by
 obtain ⟨a,o,t,u,n,rfl,ho,hc,hd⟩:=p
 exact ⟨a,o,t,u,n,rfl,k _ _ ho hc,hc,hd⟩
theorem pair_lt {v v':Value} {x y x' y':Int} {Q:Bool->Shared->Prop} (h1:PairAt s.heap v x y) (h2:PairAt s.heap v' x' y') (h:Q (decide (x < x'\/(x=x'/\y < y'))) s):wpAny (model prog w) A (keyLt' (tuples' true) v v') Q E s:=by
 obtain ⟨a,o,t,u,n,rfl,ho,hc,hd⟩:=h1
 obtain ⟨a',o',t',u',n',rfl,ho',hc',hd'⟩:=h2
 refine kat_lt ho hd ho' hd' ?_
 refine (show KatLex prog w A true false Q [(.int x t,.int x' t'),(.int y u,.int y' u')] 0 s from kat_cons (SeqAt.EqAt.int_int x t x' t' _ _ _ _ ?_))
 by_cases e:x=x'
 ·subst e
  rw [show (x == x)=true from by simp]
  refine kat_yes (kat_cons (SeqAt.EqAt.int_int y u y' u' _ _ _ _ ?_))
  by_cases e2:y=y'
  ·subst e2
   rw [show (y == y)=true from by simp]
   refine kat_yes (kat_nil ?_)
   rw [decide_eq_false (by omega)] at h
   exact h
  ·rw [show (y == y')=false from by simp [e2]]
   refine kat_no (kat_one _ _ (lt_int ?_))
   have:decide (x < x\/x=x/\y < y')=decide (y < y'):=decide_eq_decide.mpr ⟨fun z=>by omega,fun z=>.inr ⟨rfl,z⟩⟩
   rw [this] at h
   exact h
 ·rw [show (x == x')=false from by simp [e]]
  refine kat_no (oneLt_int ?_)
  have:decide (x < x'\/x=x'/\y < y')=decide (x < x'):=decide_eq_decide.mpr ⟨fun z=>by omega,fun z=>.inl z⟩
  rw [this] at h
  exact h
theorem asc_rise {cmp:Nat->Nat->(Bool->Shared->Prop)->Shared->Prop} {Q:Nat->Shared->Prop} {n:Nat} (hc:∀ k,1<=k->k < n->∀ C:Bool->Shared->Prop,C false s->cmp k (k - 1) C s) (hq:Q n s):∀ (f k:Nat),1<=k->k+f=n->(kas_asc (List.toArray (List.range n)) f k).kasWp cmp Q s
 | 0,k,_,e=>by
  obtain rfl:k=n:=by omega
  exact hq
 | f+1,k,h1,e=>by
  have e1:(List.toArray (List.range n)).getD k 0=k:=by simp [show k < n by omega]
  have e2:(List.toArray (List.range n)).getD (k - 1) 0=k - 1:=by simp [show k - 1 < n by omega]
  refine (show cmp ((List.toArray (List.range n)).getD k 0) ((List.toArray (List.range n)).getD (k - 1) 0) _ s from ?_)
  rw [e1,e2]
  refine hc k h1 (by omega) _ ?_
  exact (show (kas_asc (List.toArray (List.range n)) f (k+1)).kasWp cmp Q s from asc_rise hc hq f (k+1) (by omega) (by omega))
theorem sort_rise {cmp:Nat->Nat->(Bool->Shared->Prop)->Shared->Prop} {Q:Array Nat->Shared->Prop} {n:Nat} (h1:1<=n) (hc:∀ k,1<=k->k < n->∀ C:Bool->Shared->Prop,C false s->cmp k (k - 1) C s) (hq:Q (List.toArray (List.range n)) s):(kas_sort n).kasWp cmp Q s:=by
 unfold kas_sort kas_count
 rw [KasT.kasWp_bind,KasT.kasWp_bind]
 refine asc_rise hc ?_ (n - 1) 1 (Nat.le_refl _) (by omega)
 rw [if_pos (by simp)]
 refine (show (if n < n then _ else KasT.ret (List.toArray (List.range n))).kasWp cmp Q s from ?_)
 rw [if_neg (Nat.lt_irrefl _)]
 exact hq
theorem kind_pairs {vs:List Value} {xs ys:Nat->Int} {Q:SortKind->Shared->Prop} (h2:2<=vs.length) (hp:∀ (k:Nat) (v:Value),vs[k]?=some v->PairAt s.heap v (xs k) (ys k)) (h:Q (tuples' true) s):wpAny (model prog w) A (keyKind' vs.toArray) Q E s:=by
 have ex:∀ (l:List Value) (f:Nat),(∀ (k:Nat) (v:Value),l[k]?=some v->∃ x y,PairAt s.heap v x y)->∃ fs:List Value,KatTups s.heap l fs/\fs.length=l.length/\∀ v ∈ fs,∃ i t,v=.int i t:=by
  intro l
  induction l with
  | nil=>exact fun _ _=>⟨[],trivial,rfl,fun _ z=>nomatch z⟩
  | cons v l ih=>
   intro f hl
   obtain ⟨fs,a1,a2,a3⟩:=ih f fun k v e=>hl (k+1) v (by simpa using e)
   obtain ⟨x,y,a,o,t,u,n,rfl,ho,hc,hd⟩:=hl 0 v rfl
   refine ⟨.int x t :: fs,KatTups.cons ho hc hd rfl a1,by rw [List.length_cons,List.length_cons,a2],fun v hv=>?_⟩
   rcases List.mem_cons.mp hv with rfl | hv
   ·exact ⟨_,_,rfl⟩
   ·exact a3 v hv
 obtain ⟨fs,a1,a2,a3⟩:=ex vs 0 fun k v e=>⟨_,_,hp k v e⟩
 refine kat_kind (T:=.type "int") a1 (by omega) (fun v hv=>?_) (by decide) h
 obtain ⟨i,t,rfl⟩:=a3 v hv
 exact Looks.now
theorem list_sort_rise {a:Addr} {vs:List Value} {n:Nat} {xs ys:Nat->Int} {P:PySem.Fin->Shared->Prop} (ho:s.heap.get? a=some (seqObj "list" vs.toArray n)) (h64:vs.length < 64)
  (hp:∀ (k:Nat) (v:Value),vs[k]?=some v->PairAt s.heap v (xs k) (ys k)) (hr:∀ k,k+1 < vs.length->xs k < xs (k+1)\/(xs k=xs (k+1)/\ys k < ys (k+1)))
  (h:P (.done (.ret .none)) { s with heap:=sortedHeap s.heap a vs vs.toArray }):wpAny (model prog w) A (Builtin.«list.sort» ⟨[.ref a],[]⟩) P E s:=by
 have ha:a < s.heap.objs.size:=Heap.lt_size ho
 have hsz:vs.toArray.size=vs.length:=by simp
 have hs64:vs.toArray.size<=sizeLine:=by rw [hsz,sizeLine_eq];omega
 obtain ⟨e1,ho1⟩:∃ e1,(s.heap.update a (Obj.mapSeq fun _=>#[])).get? a=some (seqObj "list" #[] e1):=⟨_,get?_update_seq ho (fun _=>#[])⟩
 rw [list_sort_plain]
 refine wpAny_bind (listItems_at ho rfl (wpAny_bind (listUpdate_at ho rfl (wpAny_bind (seqEpoch_at ho1 rfl (wpAny_bind (wpAny_newTuple (wpAny_bind (wpAny_newList (wpAny_holding ?_) (Nat.zero_le _))) (by show vs.length<=_;rw [sizeLine_eq];omega))))) hs64 (Nat.zero_le _))))
 have ho6:(((s.heap.update a (Obj.mapSeq fun _=>#[])).push (seqObj "tuple" vs.toArray 0)).push (seqObj "list" #[] 0)).get? a=some (seqObj "list" #[] e1):=by
  refine Eq.trans (Heap.get?_push_ne _ _ _ (by rw [size_push',Heap.size_update];exact Nat.ne_of_lt (Nat.lt_succ_of_lt ha))) ?_
  exact (Heap.get?_push_ne _ _ _ (by rw [Heap.size_update];exact Nat.ne_of_lt ha)).trans ho1
 have hp6:∀ (k:Nat) (v:Value),vs[k]?=some v->PairAt (((s.heap.update a (Obj.mapSeq fun _=>#[])).push (seqObj "tuple" vs.toArray 0)).push (seqObj "list" #[] 0)) v (xs k) (ys k):=fun k v e=>(hp k v e).mono fun b o hb hc=>by
  have hne:b ≠ a:=fun z=>by
   rw [z,ho] at hb
   cases hb
   exact absurd hc (by simp [seqObj])
  exact Heap.get?_push_of_some _ (Heap.get?_push_of_some _ (by rw [Heap.get?_update_ne _ _ _ _ hne];exact hb))
 refine (show wpAny (model prog w) A _ P E { s with heap:=((s.heap.update a (Obj.mapSeq fun _=>#[])).push (seqObj "tuple" vs.toArray 0)).push (seqObj "list" #[] 0) } from ?_)
 dsimp only
 by_cases h2:vs.toArray.size < 2
 ·rw [if_pos h2,if_pos h2]
  refine wpAny_bind (wpAny_pure ?_)
  rw [StateT.run_pure]
  refine wpAny_bind (wpAny_pure ?_)
  dsimp only
  have eo:(arrOf (SortSt.mk' general' (vs.toArray.zip vs.toArray) #[] 7 none)).map (·.2)=vs.toArray:=by
   show (vs.toArray.zip vs.toArray).map (·.2)=vs.toArray
   rw [List.zip_toArray,List.map_toArray,List.map_snd_zip (Nat.le_refl _)]
  rw [eo]
  refine wpAny_bind (seqEpoch_at ho6 rfl (wpAny_bind (listUpdate_at ho6 rfl ?_ (Nat.zero_le _) (Nat.le_succ_of_le hs64))))
  simp only [bne_self_eq_false,Bool.false_eq_true,if_false]
  exact wpAny_pure h
 ·rw [if_neg h2,if_neg h2]
  have hn2:2<=vs.length:=by omega
  refine wpAny_bind (kind_pairs (xs:=xs) (ys:=ys) hn2 hp6 ?_)
  refine wpAny_bind (wpAny_mono (kat_run (κ:=tuples' true) (ks:=vs) (vs:=vs) (Q:=fun st' s'=>(arrOf st').map (·.2)=vs.toArray/\failedOf st'=none/\s'={ s with heap:=((s.heap.update a (Obj.mapSeq fun _=>#[])).push (seqObj "tuple" vs.toArray 0)).push (seqObj "list" #[] 0) })
   (G:=fun p s'=>p=List.toArray (List.range vs.length)/\s'={ s with heap:=((s.heap.update a (Obj.mapSeq fun _=>#[])).push (seqObj "tuple" vs.toArray 0)).push (seqObj "list" #[] 0) }) rfl hn2 h64 (fun p st' s' a1 a2 a3 ⟨a4,a5⟩=>⟨?_,a3,a5⟩) (sort_rise (by omega) (fun k hk1 hk2 C hC=>?_) ⟨rfl,rfl⟩)) ?_ fun _ _ e=>e)
  ·rw [kat_snds rfl a2,a4]
   apply Array.ext_getElem?
   intro i
   by_cases hi:i < vs.length
   ·simp [hi]
   ·simp [hi,Nat.le_of_not_lt hi]
  ·have g1:vs.getD k Value.none=vs[k]'hk2:=by simp [hk2]
   have g2:vs.getD (k - 1) Value.none=vs[k - 1]'(by omega):=by simp [show k - 1 < vs.length by omega]
   unfold kas_ask
   rw [g1,g2]
   refine pair_lt (hp6 k _ (List.getElem?_eq_getElem hk2)) (hp6 (k - 1) _ (List.getElem?_eq_getElem (by omega))) ?_
   have:=hr (k - 1) (by omega)
   rw [show k - 1+1=k by omega] at this
   rw [decide_eq_false (by omega)]
   exact hC
  ·rintro ⟨⟨⟩,st'⟩ s' ⟨hout,hf,rfl⟩
   dsimp only
   rw [hout,hf]
   refine wpAny_bind (seqEpoch_at ho6 rfl (wpAny_bind (listUpdate_at ho6 rfl ?_ (Nat.zero_le _) (Nat.le_succ_of_le hs64))))
   simp only [bne_self_eq_false,Bool.false_eq_true,if_false]
   exact wpAny_pure h
theorem sorted_rise {l:Addr} {o:Obj} {n:Nat} {vs:List Value} {xs ys:Nat->Int} {Q:Value->Shared->Prop} (ho:s.heap.get? l=some o) (hc:o.cls=.type "tuple") (hd:o.data=.seq vs.toArray n) (h64:vs.length < 64)
  (hp:∀ (k:Nat) (v:Value),vs[k]?=some v->PairAt s.heap v (xs k) (ys k)) (hr:∀ k,k+1 < vs.length->xs k < xs (k+1)\/(xs k=xs (k+1)/\ys k < ys (k+1)))
  (h:∀ (h1:Heap),(∀ b o',s.heap.get? b=some o'->h1.get? b=some o')->Q (.ref h1.objs.size) { s with heap:=sortedHeap (h1.push (seqObj "list" vs.toArray 0)) h1.objs.size vs vs.toArray }) :
  wpAny (model prog w) A (call (.builtin "sorted") [.ref l]) Q E s:=by
 refine Calls.call_function_entry kind_sorted plain_sorted entry_sorted (args_sorted1 _) ?_
 unfold Builtin.«sorted»
 refine wpAny_bind (m:=checkCount "sorted" 1 1 _) (wpAny_pure (wpAny_bind (wpAny_collect_seq l (.inr rfl) ho hc hd (fun h1 k1=>?_) (by rw [List.size_toArray,sizeLine_eq];omega))))
 rw [show vs.toArray.toList=vs from rfl]
 refine wpAny_bind (wpAny_newList ?_ (by rw [sizeLine_eq];omega))
 have hoL:(h1.push (seqObj "list" vs.toArray 0)).get? h1.objs.size=some (seqObj "list" vs.toArray 0):=Heap.get?_push_size _ rfl
 refine (show wpAny _ _ _ _ _ { s with heap:=h1.push (seqObj "list" vs.toArray 0) } from ?_)
 refine wpAny_bind (wpAny_holding (wpAny_call_entry slot_list_sort ⟨_,hoL,rfl⟩ entry_list_sort (list_sort_rise (s:={ s with heap:=h1.push (seqObj "list" vs.toArray 0) }) hoL h64 (fun k v e=>(hp k v e).mono fun b o' hb _=>Heap.get?_push_of_some _ (k1 _ _ hb)) hr ⟨_,rfl,?_⟩) (args_list_sort _)))
 exact wpAny_pure ⟨_,rfl,h h1 k1⟩
end
end PySem
namespace L3
open PySem PySem.Spec PyProof.Rows L2
section
variable {X:Cx}
theorem op_notInP (hu:X.A.units+64 < cLine):OpR X (compareOp .NotIn) (fun x y H Q=>∃ (a:Addr) (ys:List Pk) (k:List Key) (b:Addr),x=.ref b/\y=.ref a/\H a=some (DP X.prog X.w a ys)/\KeysAt H ys/\H b=some (.tup (k.map kV))/\Q (.bl (!(ys.any fun y=>decide (y.1=k)))) H):=by
 intro pins s σ H x y v u Q I rx ry h
 obtain ⟨a,ys,k,b,rfl,rfl,e,kk,hb,q⟩:=h
 cases rx
 cases ry
 obtain ⟨z,hd,xs,rel,dd⟩:=dp_of I e kk
 refine notIn_heap (tupleKind_room_in1 (by omega)) (keyT I hb) hd dd ?_
 rw [R3.any rel k] at q
 exact ⟨.bl _,H,I.tok _,rfl,q⟩
theorem op_inT {K:PySem.W.Frag} (hK:X.K=K) (hu:X.A.units+64 < cLine):OpR X (compareOp .In) (fun x y H Q=>∃ (p:Addr) (as:List Addr) (e:Addr->Bool),y=.ref p/\SqT K H p (as.map V.ref)/\(∀ a ∈ as,EqQ K H 1 (.ref a) x (e a))/\Q (.bl (as.any e)) H):=by
 subst hK
 intro pins s σ H x y v u Q I rx ry h
 obtain ⟨p,as,e,rfl,hq,he,q⟩:=h
 cases ry
 obtain ⟨its,r,pl,hz⟩:=I.tuple hq
 have go:∀ (l:List Addr) (vs:List Value),Vals (l.map V.ref) vs->vs=l.map Value.ref:=by
  intro l
  induction l with
  | nil=>intro vs h;cases h;rfl
  | cons b l ih=>
   intro vs h
   rw [List.map_cons] at h
   cases h with
   | cons h1 h2=>
    cases h1
    rw [ih _ h2]
    rfl
 have ei:=go as its r
 refine SeqAt.in_tupleAt (fun v=>match v with | .ref a=>e a | _=>false) pl (fun w hw=>?_) ⟨.bl _,H,I,rfl,?_⟩
 ·rw [ei] at hw
  obtain ⟨a,ha,rfl⟩:=List.mem_map.mp (show w ∈ as.map Value.ref by simpa using hw)
  exact eqq_at I (n:=1) (A:=X.A.in1) (x:=.ref a) (by show X.A.units+1+1 < cLine;omega) rfl rx (he a ha)
 ·rw [ei]
  have:((as.map Value.ref).toArray.any fun v=>match v with | .ref a=>e a | _=>false)=as.any e:=by
   rw [List.any_toArray,List.any_map]
   rfl
  rw [this]
  exact q
theorem call_sortP:CallR X (.builtin "sorted") (fun vs H Q=>∃ (p:Addr) (as:List Addr) (xs ys:Nat->Int),vs=[.ref p]/\SqT X.K H p (as.map V.ref)/\as.length < 64/\(∀ k a,as[k]?=some a->H a=some (.tup [.int (xs k),.int (ys k)]))/\(∀ k,k+1 < as.length->xs k < xs (k+1)\/(xs k=xs (k+1)/\ys k < ys (k+1)))/\∀ (r:Addr),H r=none->Q (.ref r) (upd H r (.lst (as.map V.ref)))):=by
 intro pins s σ H vs us Q I r h
 obtain ⟨p,as,xs,ys,rfl,hq,h64,hp,hr,q⟩:=h
 obtain ⟨u,rfl,rx⟩:=vals1 r
 cases rx
 obtain ⟨its,r',pl,hz⟩:=I.tuple hq
 have hlen:=r'.length
 rw [List.length_map] at hlen
 obtain ⟨o,ho,hc,n,hd⟩:=pl
 refine sorted_rise (xs:=xs) (ys:=ys) ho hc hd (by omega) (fun k v e=>?_) (fun k hk=>hr k (by omega)) fun h1 kp=>?_
 ·have hk:k < as.length:=by rw [hlen];exact (List.getElem?_eq_some_iff.mp e).1
  obtain ⟨u,eu,ru⟩:=r'.get (i:=k) (x:=V.ref as[k]) (by rw [List.getElem?_map,List.getElem?_eq_getElem hk];rfl)
  rw [e] at eu
  cases eu
  cases ru
  have hob:=I.hok _ _ (hp k as[k] (List.getElem?_eq_getElem hk))
  obtain ⟨_,its2,r2,o2,ho2,hc2,n2,hd2⟩:=(show ObjOk X.prog X.w H s.heap as[k] (.tup [.int (xs k),.int (ys k)]) from hob)
  cases r2 with
  | cons r3 r4=>
   cases r4 with
   | cons r5 r6=>
    cases r6
    obtain ⟨t1,rfl⟩:=r3
    obtain ⟨t2,rfl⟩:=r5
    exact ⟨as[k],o2,t1,t2,n2,rfl,ho2,hc2,hd2⟩
 ·have I1:Inv X pins σ H { s with heap:=h1 }:=I.kept (t':=s.toks) kp
  have hz1:(h1.push (seqObj "list" its.toArray 0)).objs.size=h1.objs.size+1:=size_push' ..
  have keep:∀ b u,h1.get? b=some u->(sortedHeap (h1.push (seqObj "list" its.toArray 0)) h1.objs.size its its.toArray).get? b=some u:=fun b u e=>by
   have hlt:=Heap.lt_size e
   rw [sortedHeap_old (Nat.ne_of_lt hlt) (by rw [hz1];exact Nat.lt_succ_of_lt hlt)]
   exact Heap.get?_push_of_some _ e
  obtain ⟨c',hl⟩:=sortedHeap_at (h:=h1.push (seqObj "list" its.toArray 0)) (a:=h1.objs.size) (vs:=its) (n:=0) (out:=its.toArray) (Heap.get?_push_size _ rfl)
  have I2:Inv X pins σ (upd H h1.objs.size (.lst (as.map V.ref))) { s with heap:=sortedHeap (h1.push (seqObj "list" its.toArray 0)) h1.objs.size its its.toArray }:=
   I1.laid (t':=s.toks) keep (Nat.le_refl _) (show ObjOk X.prog X.w _ _ _ (.lst (as.map V.ref)) from ⟨by rw [List.length_map,sizeLine_eq];omega,its,c',r',hl⟩)
  exact ⟨.ref h1.objs.size,_,I2,rfl,q _ (I1.hok.fresh (Nat.le_refl _))⟩
end
end L3
namespace L3
open PySem PySem.Spec PyProof.Rows L2
theorem op_catH {X:Cx}:OpR X (binaryOp .Add) (fun x y H Q=>∃ (a b:Addr) (xs ys:List V),x=.ref a/\y=.ref b/\H a=some (.tup xs)/\H b=some (.tup ys)/\xs.length+ys.length<=sizeLine/\∀ (r:Addr) (H2:Hp),Same H H2->H2 r=some (.tup (xs++ys))->Q (.ref r) H2):=by
 intro pins s σ H x y v u Q I rx ry h
 obtain ⟨a,b,xs,ys,rfl,rfl,ha0,hb0,hz,q⟩:=h
 have ha:SqT X.K H a xs:=SqT.of ha0
 have hb:SqT X.K H b ys:=SqT.of hb0
 by_cases hx:xs=[]
 ·cases rx;cases ry
  obtain ⟨its,r1,p1,_⟩:=I.tuple ha
  obtain ⟨its2,r2,p2,_⟩:=I.tuple hb
  have hv:its=[]:=r1.nil_iff.mpr hx
  obtain ⟨⟨c1,dd1,data1,sl1⟩,o1,hc1,n1,hd1⟩:=id p1
  obtain ⟨⟨c2,dd2,data2,sl2⟩,o2,hc2,n2,hd2⟩:=id p2
  simp only at hc1 hd1 hc2 hd2
  subst hc1 hd1 hc2 hd2
  exact concat_meets ⟨_,o1,rfl⟩ ⟨_,o2,rfl⟩ noFill_tuple_add seq_tuple_add PySem.F.slot_tuple_add PySem.F.entry_tuple_add (PySem.F.args_tuple_add_2 _ _) (tuple_addW0 a b its.toArray its2.toArray n1 n2 dd1 dd2 sl1 sl2 (by simp [hv])) ⟨o1,o2,⟨.ref b,H,I,rfl,q b H (Same.refl H) (by rw [hx];exact hb0)⟩⟩
 ·exact op_catT pins s σ H _ _ v u Q I rx ry ⟨a,b,xs,ys,rfl,rfl,ha,hb,hx,hz,fun e=>q a H (Same.refl H) (by rw [e,List.append_nil];exact ha0),fun _ p hp=>q p _ (same_upd hp) upd_same⟩
end L3
namespace Vm
open PySem PySem.Spec PyProof.Rows L2 L3
end Vm
namespace Vm
open PySem PySem.Spec PyProof.Rows L2 L3
section
variable {X:Cx}
end
end Vm
namespace Vm
open PySem PySem.Spec PyProof.Rows L2 L3
end Vm
namespace L3
open PySem PySem.Spec PyProof.Rows L2
theorem relabel_back2 {env:Env} {x:Str}:∀ {names:List (Str × NameKind)},
  ((names.map fun (n,k)=>if (k == NameKind.free && env.scope.kind == .function && env.kindOf n == some .cell) then (n,NameKind.cell) else (n,k)).lookup x=some .cell ∨
   (names.map fun (n,k)=>if (k == NameKind.free && env.scope.kind == .function && env.kindOf n == some .cell) then (n,NameKind.cell) else (n,k)).lookup x=some .free)->names.lookup x=some .free\/names.lookup x=some .cell
 | [],h=>by rcases h with h | h <;> (rw [List.map_nil,List.lookup_nil] at h;cases h)
 | (n,k) :: r,h=>by
  have ih:=relabel_back2 (env:=env) (x:=x) (names:=r)
  rw [List.map_cons] at h
  rw [List.lookup_cons]
  cases hx:x == n with
  | true=>
   dsimp only
   by_cases hq:(k == NameKind.free && env.scope.kind == .function && env.kindOf n == some .cell)=true
   ·rw [Bool.and_eq_true,Bool.and_eq_true] at hq
    rw [beq_iff_eq.mp hq.1.1]
    exact .inl rfl
   ·dsimp only at h
    rw [if_neg hq] at h
    rw [List.lookup_cons,hx] at h
    dsimp only at h
    exact h.symm
  | false=>
   dsimp only
   refine ih ?_
   dsimp only at h
   by_cases hq:(k == NameKind.free && env.scope.kind == .function && env.kindOf n == some .cell)=true
   ·rw [if_pos hq,List.lookup_cons,hx] at h
    exact h
   ·rw [if_neg hq,List.lookup_cons,hx] at h
    exact h
def compC (X:Cx) (Nc:List Str) (scope:Scope) (x0:Str) (c0:Addr) (cl:List (Str × Addr)) (C:Addr) (s:Shared) (H:Hp) (fp:List Addr):Cx:=
 { X with N:=Nc,s₀:=s,H₀:=H,env:=compEnvC scope ((x0,c0) :: cl) C X.env,outer:=X.stack,stack:=X.stack,ex:=fp,fn:=fun x=>x == x0,pn:=[],xe:=fun _ _=>False }
structure CompOkC (X:Cx) (scope:Scope) (Nc:List Str) (mp:List (Option Nat)) (x0:Str):Prop where
 kind:scope.kind=.function
 cf:∀ n acc,cellsFrom n scope.names acc=(x0,n) :: acc
 pc:∀ h:Heap,pushCells h scope.names=h.push { cls:=.type "cell",data:=.cell none }
 one:∀ y ∈ scope.names,y.2=.cell->y.1=x0
 nof:scope.names.lookup x0 ≠ some .free
 loc:∀ y ∈ scope.names,y.2=.local->scope.names.lookup y.1=some .local
 fre:∀ y ∈ scope.names,y.2=.free->X.env.kindOf y.1=some .cell\/X.env.kindOf y.1=some .free
 map:MapOk X scope Nc mp
theorem lk_cons {x0 x:Str} {c0 c:Addr} {cl:List (Str × Addr)} (h:((x0,c0) :: cl).lookup x=some c):(x=x0/\c=c0)\/(x ≠ x0/\cl.lookup x=some c):=by
 rw [List.lookup_cons] at h
 by_cases e:x=x0
 ·rw [show (x == x0)=true from beq_iff_eq.mpr e] at h
  exact .inl ⟨e,(Option.some.inj h).symm⟩
 ·rw [show (x == x0)=false from beq_eq_false_iff_ne.mpr e] at h
  exact .inr ⟨e,h⟩
theorem lk_ne {x0 x:Str} {c0:Addr} {cl:List (Str × Addr)} (e:x ≠ x0):((x0,c0) :: cl).lookup x=cl.lookup x:=by
 rw [List.lookup_cons,show (x == x0)=false from beq_eq_false_iff_ne.mpr e]
section
variable {X:Cx} {pins:List (Addr × Obj)} {σ:L2.St} {H:Hp} {s:Shared} {scope:Scope} {Nc:List Str} {mp:List (Option Nat)} {cl:List (Str × Addr)} {C c0:Addr} {x0:Str} {fp:List Addr}
theorem old_cell (I:Inv X pins σ H s) (h1:∀ x c,cl.lookup x=some c->X.env.cells.lookup x=some c) {x:Str} {c:Addr} (e:cl.lookup x=some c):c < s.heap.objs.size:=by
 obtain ⟨v,o,ho,_⟩:=I.cell x c (h1 x c e)
 exact Heap.lt_size ho
theorem compC_ok (I:Inv X pins σ H s) (S:CompOkC X scope Nc mp x0) (h1:∀ x c,cl.lookup x=some c->X.env.cells.lookup x=some c) (h2:∀ y ∈ scope.names,y.2=.free->∃ c,cl.lookup y.1=some c)
  (hC:s.heap.objs.size<=C) (hc0:s.heap.objs.size<=c0) (hf:∀ b ∈ fp,FpOk X pins H b) (ho:∀ b ∈ fp,b < s.heap.objs.size):(compC X Nc scope x0 c0 cl C s H fp).Ok where
 mod:=I.ok.mod
 kind:=S.kind
 glob:=I.ok.glob
 blt:=I.ok.blt
 above:=hC
 inj:=fun x y c e e'=>by
  rcases lk_cons e with ⟨k1,k2⟩ | ⟨n,k⟩ <;> rcases lk_cons e' with ⟨k3,k4⟩ | ⟨n',k'⟩
  ·rw [k1,k3]
  ·exact absurd (old_cell I h1 k') (by rw [k2];exact Nat.not_lt.mpr hc0)
  ·exact absurd (old_cell I h1 k) (by rw [k4];exact Nat.not_lt.mpr hc0)
  ·exact I.ok.inj x y c (h1 x c k) (h1 y c k')
 has:=fun x hx=>by
  by_cases e:x=x0
  ·exact ⟨c0,by rw [e];show ((x0,c0) :: cl).lookup x0=_;rw [List.lookup_cons,show (x0 == x0)=true from beq_self_eq_true _]⟩
  ·have q:=relabel_back2 (env:=X.env) hx
   rcases q with q | q
   ·obtain ⟨c,hc⟩:=h2 (x,.free) (mem_lookup q) rfl
    exact ⟨c,(lk_ne e).trans hc⟩
   ·exact absurd (S.one (x,.cell) (mem_lookup q) rfl) e
 cab:=fun x c hx e=>by
  have e0:x=x0:=beq_iff_eq.mp hx
  rcases lk_cons e with ⟨_,rfl⟩ | ⟨n,_⟩
  ·exact hc0
  ·exact absurd e0 n
 hd:=I.ok.hd
 frames:=I.ok.frames
 stk:=.inl rfl
 exf:=fun b hb=>⟨fun z=>absurd (Nat.lt_of_lt_of_le (ho b hb) hC) (by rw [z];exact Nat.lt_irrefl _),fun x c e=>by
  rcases lk_cons e with ⟨_,rfl⟩ | ⟨_,e⟩
  ·exact fun z=>absurd (Nat.lt_of_lt_of_le (ho b hb) hc0) (by rw [<-z];exact Nat.lt_irrefl _)
  ·exact (hf b hb).2.2.2.2.1 x c (h1 x c e)⟩
 bs:=I.bs
 bsz:=Nat.le_trans I.ok.bsz I.sz
 noex:=fun b o e hb=>by
  rcases (hf b hb).2.2.2.1 with z | z
  ·exact I.ok.noex b o e z
  ·exact absurd (Nat.lt_of_lt_of_le (Heap.lt_size e) (Nat.le_trans I.ok.bsz z)) (Nat.lt_irrefl _)
 exfs:=fun b hb z=>by
  rcases List.mem_cons.mp (I.stkSub b z) with e | e
  ·exact (hf b hb).2.1 e
  ·exact (hf b hb).2.2.1 e
 funs:=I.stack
 frf:=I.stkFree
theorem compC_inv {h':Heap} {tk:Nat} {D:Addr} {oD:Obj} (I:Inv X pins σ H s) (S:CompOkC X scope Nc mp x0) (h1:∀ x c,cl.lookup x=some c->X.env.cells.lookup x=some c) (h2:∀ y ∈ scope.names,y.2=.free->∃ c,cl.lookup y.1=some c)
  (hC:s.heap.objs.size<=C) (hc0:s.heap.objs.size<=c0) (e0:h'.IsCell c0 none) (hf:∀ b ∈ fp,FpOk X pins H b) (ho:∀ b ∈ fp,b < s.heap.objs.size) (kp:∀ b o,s.heap.get? b=some o->h'.get? b=some o) {m:Str->Option Value} (hn:h'.Ns C m)
  (hD:s.heap.objs.size<=D) (hDC:D ≠ C) (eD:h'.get? D=some oD) (dD:∀ v,oD.data ≠ .cell v):Inv (compC X Nc scope x0 c0 cl C s H fp) [(D,oD)] (mapS mp σ) H { s with heap:=h',toks:=tk } where
 ok:=compC_ok I S h1 h2 hC hc0 hf ho
 os:=rfl
 bare:=I.bare
 base:=Un.kept kp
 loc:=by
  refine ⟨m,hn,fun j x v e1 e2 _=>?_⟩
  have hj:(mapS mp σ)[j]?=(mp[j]?).map fun o=>o.bind fun i=>(σ[i]?).bind id:=by unfold mapS;rw [List.getElem?_map]
  rw [hj] at e2
  cases e3:mp[j]? with
  | none=>rw [e3] at e2;cases e2
  | some o=>
   rw [e3] at e2
   cases o with
   | none=>cases e2
   | some i=>
    obtain ⟨k1,k2,k3⟩:=S.map.at e3 e1
    have e4:(σ[i]?).bind id=some v:=Option.some.inj e2
    have e5:σ[i]?=some (some v):=by
     cases q:σ[i]? with
     | none=>rw [q] at e4;cases e4
     | some z=>rw [q] at e4;exact congrArg some e4
    obtain ⟨m0,_,hl⟩:=I.loc
    obtain ⟨u,r,l⟩:=hl i x v k1 e5 (.inr k2)
    refine ⟨u,r,.inr ⟨?_,?_⟩⟩
    ·show (relabel scope X.env).names.lookup x=some .cell\/(relabel scope X.env).names.lookup x=some .free
     have go:∀ {names:List (Str × NameKind)},names.lookup x=some .free →
       ((names.map fun (n,k)=>if (k == NameKind.free && X.env.scope.kind == .function && X.env.kindOf n == some .cell) then (n,NameKind.cell) else (n,k)).lookup x=some .cell ∨
        (names.map fun (n,k)=>if (k == NameKind.free && X.env.scope.kind == .function && X.env.kindOf n == some .cell) then (n,NameKind.cell) else (n,k)).lookup x=some .free):=by
      intro names
      induction names with
      | nil=>intro q;rw [List.lookup_nil] at q;cases q
      | cons y r ih=>
       obtain ⟨n,k⟩:=y
       intro q
       rw [List.lookup_cons] at q
       rw [List.map_cons]
       dsimp only
       cases hx:x == n with
       | true=>
        rw [hx] at q
        cases q
        by_cases hq:(NameKind.free == NameKind.free && X.env.scope.kind == .function && X.env.kindOf n == some .cell)=true
        ·rw [if_pos hq,List.lookup_cons,hx];exact .inl rfl
        ·rw [if_neg hq,List.lookup_cons,hx];exact .inr rfl
       | false=>
        rw [hx] at q
        by_cases hq:(k == NameKind.free && X.env.scope.kind == .function && X.env.kindOf n == some .cell)=true
        ·rw [if_pos hq,List.lookup_cons,hx];exact ih q
        ·rw [if_neg hq,List.lookup_cons,hx];exact ih q
     exact go k3
    ·obtain ⟨c,hc⟩:=h2 (x,.free) (mem_lookup k3) rfl
     have nx:x ≠ x0:=fun z=>S.nof (by rw [<-z];exact k3)
     refine ⟨c,(lk_ne nx).trans hc,?_⟩
     rcases l with ⟨lk,_⟩ | ⟨_,c',hc',oc,hoc,hd⟩
     ·have lk':X.env.scope.names.lookup x=some .local:=lk
      rcases k2 with k2 | k2 <;> (rw [lk'] at k2;cases k2)
     ·rw [h1 x c hc] at hc';cases hc'
      exact ⟨oc,kp _ _ hoc,hd⟩
 cell:=fun x c e=>by
  rcases lk_cons e with ⟨_,rfl⟩ | ⟨_,e⟩
  ·exact ⟨_,e0⟩
  ·obtain ⟨v,o,ho',hd⟩:=I.cell x c (h1 x c e)
   exact ⟨v,o,kp _ _ ho',hd⟩
 free:=I.hok.fresh hC
 freeC:=fun x c e=>by
  rcases lk_cons e with ⟨_,rfl⟩ | ⟨_,e⟩
  ·exact I.hok.fresh hc0
  ·exact I.freeC x c (h1 x c e)
 pin:=fun p hp=>by
  have e:p=(D,oD):=by
   have hp':p ∈ ([]:List (Addr × Obj))++[(D,oD)]:=hp
   simpa using hp'
  subst e
  refine ⟨eD,I.hok.fresh hD,hDC,fun z=>?_,dD⟩
  rcases List.mem_cons.mp (I.stkSub D z) with e | e
  ·exact absurd (Nat.lt_of_lt_of_le I.lt hD) (by rw [e];exact Nat.lt_irrefl _)
  ·exact I.nofs hD e
 hok:=I.hok.kept kp
 len:=by unfold mapS;rw [List.length_map];exact S.map.len
theorem compC_out {σ':L2.St} {H':Hp} {s':Shared} {h':Heap} {D:Addr} {acc:List V} {its:List Value} {n:Nat} (I:Inv X pins σ H s) (hC:s.heap.objs.size<=C) (hD:s.heap.objs.size<=D) (hDC:D ≠ C) (hf:∀ b ∈ fp,FpOk X pins H b)
  (J:Inv (compC X Nc scope x0 c0 cl C s H fp) [(D,{ cls:=.type "list",data:=.seq its.toArray n })] σ' H' s') (hs:Heap.SameBut C s'.heap h') (hv:Vals acc its) (hz:acc.length<=sizeLine) :
  Inv X pins σ (upd H' D (.lst acc)) { s' with heap:=h' }/\H' D=none:=by
 obtain ⟨eD,nD,_,_,_⟩:=J.pin (D,{ cls:=.type "list",data:=.seq its.toArray n }) (List.mem_append_right _ List.mem_cons_self)
 have nD':H' D=none:=nD
 have u:Un (frs X.stack) fp H H' s.heap s'.heap:=J.base
 have neC:∀ b o,s.heap.get? b=some o->b ≠ C:=fun b o e=>Nat.ne_of_lt (Nat.lt_of_lt_of_le (Heap.lt_size e) hC)
 have neD:∀ b o,s.heap.get? b=some o->b ≠ D:=fun b o e=>Nat.ne_of_lt (Nat.lt_of_lt_of_le (Heap.lt_size e) hD)
 refine ⟨?_,nD'⟩
 refine I.call' (ch:=fp) (s':={ s' with heap:=h' }) J.os ⟨fun b o e nb hb hx=>?_,fun b o e nb hb hx=>?_,fun b o e nb hx=>?_,fun b o e hx=>?_,fun b xs e=>?_,fun b o xs e=>?_,fun b ps e=>?_⟩ (fun b o e=>?_) J.bare fun b hb=>⟨(hf b hb).2.2.2.1,(hf b hb).2.1,(hf b hb).2.2.2.2.1,(hf b hb).2.2.2.2.2⟩
 ·exact (hs.2 b (neC b o e)).trans (u.keep b o e nb hb hx)
 ·obtain ⟨sl,q⟩:=u.slot b o e nb hb hx
  exact ⟨sl,(hs.2 b (neC b o e)).trans q⟩
 ·rw [upd_ne (neD b o e)];exact u.free b o e nb hx
 ·obtain ⟨o',q⟩:=u.there b o e hx
  exact ⟨o',(hs.2 b (neC b o e)).trans q⟩
 ·have q:=u.tups b xs e
  rw [upd_ne (ne_of_none q nD')];exact q
 ·have q:=u.frzs b o xs e
  rw [upd_ne (ne_of_none q nD')];exact q
 ·obtain ⟨more,q⟩:=u.tbls b ps e
  exact ⟨more,by rw [upd_ne (ne_of_none q nD')];exact q⟩
 ·have freeC':H' C=none:=J.free
  by_cases hb:b=D
  ·subst hb
   rw [upd_same] at e;cases e
   exact ⟨hz,its,n,hv,(hs.2 _ hDC).trans eD⟩
  ·rw [upd_ne hb] at e
   refine (J.hok b o e).stay (fun c v hc q=>(hs.2 c ?_).trans q) (fun c q=>by rw [upd_ne (ne_of_none q nD')];exact q) fun c xs q=>by rw [upd_ne (ne_of_none q nD')];exact q
   rcases hc with z | z
   ·rw [z];exact ne_of_none e freeC'
   ·exact ne_of_none z freeC'
end
theorem newEnv_one {M:Model} {A:Around} {E:Value->Shared->Prop} {s:Shared} {scope:Scope} {globals:Addr} {cl:List (Str × Addr)} {qual:Str} {x0:Str} {outer:Env} {Q:Env->Shared->Prop} (cf:∀ n acc,cellsFrom n scope.names acc=(x0,n) :: acc) (pc:∀ h:Heap,pushCells h scope.names=h.push { cls:=.type "cell",data:=.cell none })
  (hQ:Q (newEnv scope s.heap.objs.size globals ((x0,s.heap.objs.size+1) :: cl) qual none .none (some outer) builtinsNs) { s with heap:=(s.heap.push { cls:=.type "dict",data:=.dict #[] }).push { cls:=.type "cell",data:=.cell none } }) :
  wpAny M A (newFunctionEnv scope globals cl [] qual none .none (some outer)) Q E s:=by
 simp only [newFunctionEnv,Option.isSome_some,if_true]
 refine wpAny_bind (wpAny_alloc ?_)
 refine wpAny_bind (wpAny_layCells _ (fun name kind cells=>by cases hkc:kind == NameKind.cell <;> simp [hkc]) _ _ _ _ ?_)
 rw [show ({ s with heap:=s.heap.push { cls:=.type "dict",data:=.dict #[] } }:Shared).heap.objs.size=s.heap.objs.size+1 from Heap.size_push ..,cf,pc]
 rw [List.forIn_nil]
 exact wpAny_bind (wpAny_pure (wpAny_pure hQ))
section
variable {X:Cx} {scope:Scope} {Nc:List Str} {mp:List (Option Nat)} {tg iter elt:Expr} {ifs:List Expr} {pos:Pos} {wi:TI} {g:TG} {tt:TT} {te:TE} {x0:Str}
theorem compC_block {pins:List (Addr × Obj)} {σ:L2.St} {H:Hp} {s2:Shared} {it:Addr} {fp:List Addr} {tn:Nat->Heap->Prop} {J:It} {cl:List (Str × Addr)} {RR:Value->Addr->Result->Shared->Prop} {Q:VK}
  (hc:X.calm=true) (S:CompOkC X scope Nc mp x0)
  (hb:∀ c0 cl C s H fp,PG (compC X Nc scope x0 c0 cl C s H fp) tg g/\PTs (compC X Nc scope x0 c0 cl C s H fp) ifs tt/\PE (compC X Nc scope x0 c0 cl C s H fp) elt te)
  (h1:∀ x c,cl.lookup x=some c->X.env.cells.lookup x=some c) (h2:∀ y ∈ scope.names,y.2=.free->∃ c,cl.lookup y.1=some c)
  (I:Inv X pins σ H s2) (T:Turn X.prog X.w X.K tg J fp it tn) (st:tn 0 s2.heap) (hf:∀ b ∈ fp,FpOk X pins H b) (hw:wComp J g tt te Q (mapS mp σ) H)
  (hR:∀ D C s' H',s2.heap.objs.size<=C->s2.heap.objs.size<=D->D ≠ C->(∃ m,s'.heap.Ns C m)->(∀ h',Heap.SameBut C s'.heap h'->Inv X pins σ H' { s' with heap:=h' })->H' C=none->Q (.ref D) H'->RR (.ref D) C (.ok .next) s') :
  wpAny (model X.prog X.w) X.A (newList []) (fun acc s₃=>wpAny (model X.prog X.w) X.A (newFunctionEnv scope X.env.globals cl [] X.env.qual none .none (some X.env)) (fun cenv s₄=>
   codeAny (model X.prog X.w) X.A (.compStart (.ListComp elt [⟨tg,iter,ifs,0⟩] scope pos) 0 (.ref it) acc { cenv with scope:=relabel scope X.env }) (RR acc cenv.locals) s₄) X.xe s₃) X.xe s2:=by
 obtain ⟨W,⟨m0,w0⟩,turn⟩:=hw
 refine wpAny_newObj_type (newEnv_one S.cf S.pc ?_)
 generalize hH2:s2.heap.push { cls:=.type "list",dict:=none,data:=.seq ([]:List Value).toArray }=H2
 have hns₁:((H2.push { cls:=.type "dict",data:=.dict #[] }).push { cls:=.type "cell",data:=.cell none }).Ns H2.objs.size (fun _=>none):=(Heap.Ns.new H2 (.type "dict")).push _
 have hcell₁:((H2.push { cls:=.type "dict",data:=.dict #[] }).push { cls:=.type "cell",data:=.cell none }).IsCell (H2.objs.size+1) none:=⟨_,by rw [show H2.objs.size+1=(H2.push { cls:=.type "dict",data:=.dict #[] }).objs.size from (Heap.size_push ..).symm];exact Heap.get?_push_size _ rfl,rfl⟩
 have hsb₁:∀ b o,H2.get? b=some o->((H2.push { cls:=.type "dict",data:=.dict #[] }).push { cls:=.type "cell",data:=.cell none }).get? b=some o:=fun b o e=>Heap.get?_push_of_some _ (Heap.get?_push_of_some _ e)
 show codeAny _ X.A (.compStart _ 0 (.ref it) (.ref s2.heap.objs.size) (compEnvC scope ((x0,H2.objs.size+1) :: cl) H2.objs.size X.env)) (RR (.ref s2.heap.objs.size) H2.objs.size) { s2 with heap:=(H2.push { cls:=.type "dict",data:=.dict #[] }).push { cls:=.type "cell",data:=.cell none } }
 generalize (H2.push { cls:=.type "dict",data:=.dict #[] }).push { cls:=.type "cell",data:=.cell none }=h₁ at hns₁ hcell₁ hsb₁
 have hC:H2.objs.size=s2.heap.objs.size+1:=by rw [<-hH2,Heap.size_push]
 have hDC:s2.heap.objs.size ≠ H2.objs.size:=by rw [hC];exact Nat.ne_of_lt (Nat.lt_succ_self _)
 have hCle:s2.heap.objs.size<=H2.objs.size:=by rw [hC];exact Nat.le_succ _
 have hcle:s2.heap.objs.size<=H2.objs.size+1:=Nat.le_succ_of_le hCle
 have below:∀ b,b < s2.heap.objs.size->b ≠ H2.objs.size:=fun b hb=>by rw [hC];exact Nat.ne_of_lt (Nat.lt_succ_of_lt hb)
 have old:∀ b o,s2.heap.get? b=some o->h₁.get? b=some o:=fun b o e=>hsb₁ b o (hH2 ▸ Heap.get?_push_of_some _ e)
 have eD:h₁.get? s2.heap.objs.size=some { cls:=.type "list",data:=.seq ([]:List Value).toArray 0 }:=hsb₁ _ _ (hH2 ▸ Heap.get?_push_size _ rfl)
 have ho:∀ b ∈ fp,b < s2.heap.objs.size:=fun b hb=>by
  obtain ⟨o,e,_⟩:=T.obj 0 _ st b hb
  exact Heap.lt_size e
 generalize hYd:compC X Nc scope x0 (H2.objs.size+1) cl H2.objs.size s2 H fp=Y
 have bodies:=hb (H2.objs.size+1) cl H2.objs.size s2 H fp
 rw [hYd] at bodies
 obtain ⟨hg,htt,hte⟩:=bodies
 have I0:∀ tk,Inv Y [(s2.heap.objs.size,{ cls:=.type "list",data:=.seq ([]:List Value).toArray 0 })] (mapS mp σ) H { s2 with heap:=h₁,toks:=tk }:=fun tk=>by
  rw [<-hYd]
  exact compC_inv I S h1 h2 hCle hcle hcell₁ hf ho old hns₁ (Nat.le_refl _) hDC eD fun v z=>by cases z
 have hYp:Y.prog=X.prog:=by rw [<-hYd];rfl
 have hYw:Y.w=X.w:=by rw [<-hYd];rfl
 have hYK:Y.K=X.K:=by rw [<-hYd];rfl
 have hYA:Y.A=X.A:=by rw [<-hYd];rfl
 have hYc:Y.calm=true:=by rw [<-hYd];exact hc
 have hYx:Y.xe=fun _ _=>False:=by rw [<-hYd];rfl
 have hYe:Y.env=compEnvC scope ((x0,H2.objs.size+1) :: cl) H2.objs.size X.env:=by rw [<-hYd];rfl
 have hYs:Y.s₀=s2:=by rw [<-hYd];rfl
 have hYex:Y.ex=fp:=by rw [<-hYd];rfl
 have hYpn:Y.pn=[]:=by rw [<-hYd];rfl
 have hYfs:Y.fs=frs X.stack:=by rw [<-hYd];rfl
 -- the iterator's objects,in the block
 have fpY:∀ {o:Obj} {H':Hp},(∀ b ∈ fp,H' b=none)->∀ b ∈ fp,FpOk Y [(s2.heap.objs.size,o)] H' b:=fun {o H'} hn b hb=>by
  refine ⟨hn b hb,?_,?_,.inl (by rw [hYex];exact hb),fun x c e=>?_,fun p hp=>?_⟩
  ·rw [hYe];exact below b (ho b hb)
  ·rw [hYfs]
   intro z
   rcases List.mem_cons.mp (I.stkSub b z) with e | e
   ·exact (hf b hb).2.1 e
   ·exact (hf b hb).2.2.1 e
  ·rw [hYe] at e
   rcases lk_cons e with ⟨_,rfl⟩ | ⟨_,e⟩
   ·exact fun z=>absurd (Nat.lt_of_lt_of_le (ho b hb) hcle) (by rw [<-z];exact Nat.lt_irrefl _)
   ·exact (hf b hb).2.2.2.2.1 x c (h1 x c e)
  ·rw [hYpn] at hp
   have e:p=(s2.heap.objs.size,o):=by simpa using hp
   subst e
   exact Nat.ne_of_gt (ho b hb)
 have loop:∀ s₃:Shared,s₃={ s2 with heap:=h₁ } →
   codeAny (model X.prog X.w) X.A (.compLoop (.ListComp elt [⟨tg,iter,ifs,0⟩] scope pos) 0 (.ref it) (.ref s2.heap.objs.size) (compEnvC scope ((x0,H2.objs.size+1) :: cl) H2.objs.size X.env))
    (RR (.ref s2.heap.objs.size) H2.objs.size) s₃:=by
  rintro s₃ rfl
  refine compLoop_any (fun n s'=>∃ i σ' H' acc its k,Inv Y [(s2.heap.objs.size,{ cls:=.type "list",data:=.seq its.toArray k })] σ' H' s'/\tn i s'.heap/\(∀ b ∈ fp,H' b=none)/\Vals acc its/\acc.length<=sizeLine/\W i n σ' acc H') ?_ m0
   ⟨0,mapS mp σ,H,[],[],0,I0 _,T.keep 0 _ _ st fun b _ o e=>old b o e,fun b hb=>(hf b hb).1,.nil,Nat.zero_le _,w0⟩
  rintro n s3 ⟨i,σ3,H3,acc,its,k,I3,st3,fr3,hv,hz,w3⟩
  rcases turn i n σ3 acc H3 w3 with ⟨stop,hzz,qn⟩ | ⟨go,step⟩
  ·have hd:=T.done Y hYp hYw hYK hYc i _ s3 σ3 H3 NE I3 (fpY fr3) st3 stop
   rw [hYA] at hd
   refine thn hd fun r s4 ⟨hr,I4⟩=>?_
   subst hr
   have I4':=I4
   rw [<-hYd] at I4'
   have nC:H3 H2.objs.size=none:=by
    have z:=I4.free
    rw [hYe] at z
    exact z
   obtain ⟨_,nD⟩:=compC_out I hCle (Nat.le_refl _) hDC hf I4' (Heap.SameBut.refl _ s4.heap) hv hzz
   refine hR _ _ s4 _ hCle (Nat.le_refl _) hDC ?_ (fun h' hs'=>(compC_out I hCle (Nat.le_refl _) hDC hf I4' hs' hv hzz).1) ?_ (qn _ nD)
   ·obtain ⟨m',hn',_⟩:=I4.loc
    rw [hYe] at hn'
    exact ⟨m',hn'⟩
   ·rw [upd_ne (Ne.symm hDC)];exact nC
  ·have hi:=T.item Y hYp hYw hYK hYc i _ s3 σ3 H3 NE I3 (fpY fr3) st3 go
   rw [hYA] at hi
   refine thn hi fun r s4 ⟨u,hr,h4⟩=>?_
   subst hr
   refine thn h4 fun _ s5 ⟨x,H5,I5,r5,y5,st5,fr5⟩=>?_
   have I5':=I5.pinned (fpY fr5) (T.obj _ _ st5)
   have ha:=hg _ s5 σ3 H5 x u _ I5' r5 (step x H5 y5)
   rw [hYp,hYw,hYA,hYe,hYx] at ha
   refine thn ha fun _ s6 ⟨σ6,H6,I6,q6⟩=>?_
   have ht:=htt _ s6 σ6 H6 _ I6 q6
   rw [hYp,hYw,hYA,hYe,hYx] at ht
   refine thn ht fun ok s7 ⟨H7,I7,q7⟩=>?_
   cases ok with
   | false=>
    have q7':∃ m',m' < n/\W (i+1) m' σ6 acc H7:=q7
    obtain ⟨m',hm,w7⟩:=q7'
    rw [if_neg Bool.false_ne_true]
    refine ⟨m',hm,i+1,σ6,H7,acc,its,k,I7.unpinned,T.keep _ _ _ st5 fun b hb o e=>(I7.pin (b,o) (List.mem_append_right _ (List.mem_append_right _ (mem_pinsAt hb e)))).1,fun b hb=>?_,hv,hz,w7⟩
    obtain ⟨o,e,d⟩:=T.obj _ _ st5 b hb
    exact (I7.pin (b,o) (List.mem_append_right _ (List.mem_append_right _ (mem_pinsAt hb e)))).2.1
   | true=>
    rw [if_pos rfl]
    have he:=hte _ s7 σ6 H7 _ I7 q7
    rw [hYp,hYw,hYA,hYe,hYx] at he
    refine thn he fun x4 s8 ⟨v,H8,I8,r8,hlt,m',hm,w8⟩=>?_
    have st8:tn (i+1) s8.heap:=T.keep _ _ _ st5 fun b hb o e=>(I8.pin (b,o) (List.mem_append_right _ (List.mem_append_right _ (mem_pinsAt hb e)))).1
    have fr8:∀ b ∈ fp,H8 b=none:=fun b hb=>by
     obtain ⟨o,e,d⟩:=T.obj _ _ st5 b hb
     exact (I8.pin (b,o) (List.mem_append_right _ (List.mem_append_right _ (mem_pinsAt hb e)))).2.1
    have I8':=I8.unpinned
    obtain ⟨e8,n8,ne8,nf8,_⟩:=I8'.pin (s2.heap.objs.size,{ cls:=.type "list",data:=.seq its.toArray k }) (List.mem_append_right _ List.mem_cons_self)
    refine wpAny_list_append_plain (items:=its.toArray) ⟨k,e8⟩ (fun h9 hl9 hs9=>?_) (by rw [List.size_toArray,<-hv.length];exact hz)
    obtain ⟨k9,e9⟩:=hl9
    have ep:its.toArray.push x4=(its++[x4]).toArray:=by simp
    rw [ep] at e9
    -- the list has turned
    have I9:Inv Y [] σ6 H8 { s8 with heap:=h9 }:=by
     refine (I8'.pins_of (pins':=[]) fun p hp=>nomatch hp).turned (t':=s8.toks) (it:=s2.heap.objs.size) (fun b o hb e=>(hs9.2 b hb).trans e) n8 ne8 (.inr (by rw [hYs];exact Nat.le_refl _)) (fun x c e z=>?_) fun p hp=>?_
     ·rw [hYe] at e
      rcases lk_cons e with ⟨_,rfl⟩ | ⟨_,e⟩
      ·exact absurd z (Nat.ne_of_gt (Nat.lt_succ_of_le hCle))
      ·obtain ⟨v',o',ho',_⟩:=I.cell x c (h1 x c e)
       exact absurd (Heap.lt_size ho') (by rw [z];exact Nat.lt_irrefl _)
     ·rw [hYpn] at hp
      exact absurd hp (by simp)
    refine ⟨m',hm,i+1,σ6,H8,acc++[v],its++[x4],k9,I9.pins_of fun p hp=>?_,?_,fr8,hv.append (.cons r8 .nil),?_,w8⟩
    ·have e:p=(s2.heap.objs.size,{ cls:=.type "list",data:=.seq (its++[x4]).toArray k9 }):=by simpa using hp
     subst e
     exact ⟨e9,n8,ne8,nf8,fun v z=>by cases z⟩
    ·exact T.keep _ _ _ st8 fun b hb o e=>(hs9.2 b (Nat.ne_of_lt (ho b hb))).trans e
    ·rw [List.length_append,List.length_singleton];omega
 have hself:=T.self X.A 0 { s2 with heap:=h₁ } (fun it' s'=>codeAny (model X.prog X.w) X.A (.compLoop (.ListComp elt [⟨tg,iter,ifs,0⟩] scope pos) 0 it' (.ref s2.heap.objs.size) (compEnvC scope ((x0,H2.objs.size+1) :: cl) H2.objs.size X.env))
    (RR (.ref s2.heap.objs.size) H2.objs.size) s') (notedBy (model X.prog X.w) X.A (compEnvC scope ((x0,H2.objs.size+1) :: cl) H2.objs.size X.env) fun x s'=>RR (.ref s2.heap.objs.size) H2.objs.size (.error x) s') (T.keep 0 _ _ st fun b _ o e=>old b o e) (loop _ rfl)
 exact codeAny_compStart_list (loop _ rfl) hself
theorem closC_of (S:CompOkC X scope Nc mp x0) {pins:List (Addr × Obj)} {σ:L2.St} {H:Hp} {s:Shared} (I:Inv X pins σ H s):∃ cl,closureFor scope X.env=pure cl/\(∀ x c,cl.lookup x=some c->X.env.cells.lookup x=some c)/\(∀ y ∈ scope.names,y.2=.free->∃ c,cl.lookup y.1=some c):=
 closure_ok fun y hy hf=>I.ok.has y.1 (S.fre y hy hf)
theorem pe_compC (hc:X.calm=true) (S:CompOkC X scope Nc mp x0) (hi:PI X tg iter wi)
  (hb:∀ c0 cl C s H fp,PG (compC X Nc scope x0 c0 cl C s H fp) tg g/\PTs (compC X Nc scope x0 c0 cl C s H fp) ifs tt/\PE (compC X Nc scope x0 c0 cl C s H fp) elt te)
  (hs:∀ x,foldedSetIterable iter X.env x=pure x:=by intro _;rfl):PE X (.ListComp elt [⟨tg,iter,ifs,0⟩] scope pos) (tComp mp wi g tt te):=by
 intro pins s σ H Q I h
 obtain ⟨cl,hcl,h1,h2⟩:=closC_of S I
 rw [eval_ListComp]
 refine wpAny_comprehension_free (use:=none) rfl hs hcl S.kind S.loc (thn (hi pins s σ H _ I h) fun v s1 hv=>thn hv fun itv s2 hq=>?_)
 obtain ⟨it,fp,tn,J,H2,e,I2,T,st2,f2,hw⟩:=hq
 subst e
 refine compC_block (RR:=fun acc C=>compPost (model X.prog X.w) X.A X.xe none (EP X pins σ Q) acc C) (Q:=Q) hc S hb h1 h2 I2 T st2 f2 hw fun D C s' H' hC hD hDC hm hI hn hq=>?_
 obtain ⟨m,hm⟩:=hm
 exact ⟨m,hm,fun h' hs'=>⟨.ref D,H',hI h' hs',rfl,hq⟩⟩
end
def compChkC (sc:Scope) (N:List Str) (own:Scope) (Nc:List Str) (mp:List (Option Nat)) (x0:Str):Bool:=
 (own.kind == .function) && (own.names.all fun y=>y.2 != .cell || y.1 == x0) && (own.names.lookup x0 != some .free) && (own.names.all fun y=>y.2 != .local || own.names.lookup y.1 == some .local) &&
 (own.names.all fun y=>y.2 != .free || (sc.names.lookup y.1 == some .cell || sc.names.lookup y.1 == some .free)) && mapChk sc N own Nc mp
theorem CompOkC.of {X:Cx} {own:Scope} {Nc:List Str} {mp:List (Option Nat)} {x0:Str} (cf:∀ n acc,cellsFrom n own.names acc=(x0,n) :: acc) (pc:∀ h:Heap,pushCells h own.names=h.push { cls:=.type "cell",data:=.cell none }) (h:compChkC X.env.scope X.N own Nc mp x0=true):CompOkC X own Nc mp x0:=by
 unfold compChkC at h
 simp only [Bool.and_eq_true,List.all_eq_true,Bool.or_eq_true,beq_iff_eq,bne_iff_ne] at h
 obtain ⟨⟨⟨⟨⟨h1,h2⟩,h0⟩,h3⟩,h4⟩,h5⟩:=h
 refine ⟨h1,cf,pc,fun y hy e=>?_,h0,fun y hy e=>?_,fun y hy e=>?_,mapChk_ok h5⟩
 ·rcases h2 y hy with z | z
  ·exact absurd e z
  ·exact z
 ·rcases h3 y hy with z | z
  ·exact absurd e z
  ·exact z
 ·rcases h4 y hy with z | z
  ·exact absurd e z
  ·exact z
end L3
namespace L3
open PySem PySem.Spec PyProof.Rows L2
theorem pi_listK {X:Cx} {K:PySem.W.Frag} {tg l:Expr} {tl:TE} (hK:X.K=K) (hl:PE X l tl):PI X tg l (iList K tl):=by subst hK;exact pi_list hl
end L3
namespace Vm
open PySem PySem.Spec PyProof.Rows L2 L3
end Vm
namespace L3
open PySem PySem.Spec PyProof.Rows L2 Vm
theorem call_minL {X:Cx} (hc:X.calm=true):CallR X (.builtin "min") (fun xs H Q=>∃ (p:Addr) (ns:List Int),xs=[.ref p]/\SqL X.K H p (ns.map V.int)/\ns ≠ []/\∀ m ∈ ns,(∀ n ∈ ns,m<=n)->Q (.int m) H):=by
 intro pins s σ H xs us Q I r h
 obtain ⟨p,ns,rfl,hq,hne,qm⟩:=h
 obtain ⟨u,rfl,rx⟩:=vals1 r
 cases rx
 obtain ⟨its,rv,hp,hz⟩:=I.list hq
 have hlt:p < s.heap.objs.size:=by obtain ⟨_,e,_⟩:=hp.isList;exact Heap.lt_size e
 have el:its.toArray.size=ns.length:=by rw [List.size_toArray,<-rv.length,List.length_map]
 have hn0:0 < ns.length:=List.length_pos_iff.mpr hne
 have hval:∀ (i:Nat) (v:Value),its.toArray[i]?=some v->∃ t,v=.int (ns.getD i 0) t:=fun i v hv=>by
  have hv':its[i]?=some v:=by simpa using hv
  have hi:i < ns.length:=by
   have:=(List.getElem?_eq_some_iff.mp hv').1
   rw [<-el,List.size_toArray];exact this
  obtain ⟨u,hu,ru⟩:=rv.get (i:=i) (x:=V.int ns[i]) (by rw [List.getElem?_map,List.getElem?_eq_getElem hi];rfl)
  rw [hv'] at hu;cases hu
  obtain ⟨t,rfl⟩:=ru
  exact ⟨t,by show Value.int ns[i] t=Value.int (ns.getD i 0) t;rw [List.getD_eq_getElem?_getD,List.getElem?_eq_getElem hi];rfl⟩
 refine call_min_walk (wpAny_pyIter_list hp.isList ?_)
 refine ⟨s.heap.objs.size,[s.heap.objs.size,p],[s.heap.objs.size],its.toArray.size,_,_,fun a b=>decide (ns.getD a 0 < ns.getD b 0),rfl,Walks.list (A:=X.A.in1) (I.ok.hd hc) _ _ (Nat.ne_of_lt hlt) its.toArray,⟨⟨_,Heap.get?_push_size _ rfl,rfl,rfl⟩,hp.isList.push _⟩,?_,by omega,CmpOf.ints_lt (fun i=>ns.getD i 0) hval,?_⟩
 ·intro b hb
  simp only [List.mem_cons,List.not_mem_nil,or_false] at hb
  rw [Heap.size_push]
  rcases hb with rfl | rfl
  ·exact Nat.lt_succ_self _
  ·exact Nat.lt_succ_of_lt hlt
 ·intro v h2 tk hv hk
  obtain ⟨t,rfl⟩:=hval _ _ hv
  have hb:=best_in (fun a b=>decide (ns.getD a 0 < ns.getD b 0)) (its.toArray.size - 1)
  have hle:=best_le (fun i=>ns.getD i 0) (its.toArray.size - 1)
  generalize argBest (fun a b=>decide (ns.getD a 0 < ns.getD b 0)) (its.toArray.size - 1)=k at hb hle hv
  have hkl:k < ns.length:=by omega
  refine ⟨.int (ns.getD k 0),H,I.kept fun b o e=>hk b o (fun z=>absurd (Heap.lt_size e) (by rw [List.mem_singleton.mp z];exact Nat.lt_irrefl _)) (Heap.get?_push_of_some _ e),⟨_,rfl⟩,qm _ ?_ fun m hm=>?_⟩
  ·rw [List.getD_eq_getElem?_getD,List.getElem?_eq_getElem hkl];exact List.getElem_mem hkl
  ·obtain ⟨j,hj,rfl⟩:=List.mem_iff_getElem.mp hm
   have:=hle j (by omega)
   rw [List.getD_eq_getElem?_getD (i:=j),List.getElem?_eq_getElem hj] at this
   exact this
theorem comp_growF {α:Type} {J:It} {H:Hp} {as:List α} {v:α->V} (f:α->Bool) {tt:TT} {te:TE} {Q:VK} {rest:L2.St} (S:∀ H',Same H H'->Src J H' (as.map v)) (hz:as.length<=sizeLine)
  (ht:∀ a ∈ as,∀ H',Same H H'->∀ k:Bool->Hp->Prop,(∀ H2,Same H' H2->k (f a) H2)->tt (some (v a) :: rest) H' k) (he:∀ a ∈ as,∀ H',∀ k:VK,k (v a) H'->te (some (v a) :: rest) H' k)
  (hq:∀ H' D,Same H H'->H' D=none->Q (.ref D) (upd H' D (.lst ((as.filter f).map v)))):wComp J (gName 0) tt te Q (none :: rest) H:=by
 refine ⟨fun i m σ acc H'=>Same H H'/\i<=as.length/\m=as.length - i/\acc=((as.take i).filter f).map v/\∃ o,σ=o :: rest,⟨as.length,Same.refl _,Nat.zero_le _,rfl,by simp,none,rfl⟩,?_⟩
 rintro i m σ acc H' ⟨hS,hi,rfl,rfl,o,rfl⟩
 have hacc:(((as.take i).filter f).map v).length<=i:=by
  rw [List.length_map]
  exact Nat.le_trans (List.length_filter_le _ _) (by rw [List.length_take];exact Nat.min_le_left _ _)
 by_cases hlt:i < as.length
 ·refine .inr ⟨(S H' hS).go i (by rw [List.length_map];exact hlt),fun x H1 y=>?_⟩
  obtain ⟨rfl,hx⟩:=(S H' hS).yld i x H1 (by rw [List.length_map];exact hlt) y
  rw [List.getElem?_map,List.getElem?_eq_getElem hlt] at hx
  have hx':v as[i]=x:=Option.some.inj hx
  subst hx'
  have hm:as[i] ∈ as:=List.getElem_mem hlt
  have ts:as.take (i+1)=as.take i++[as[i]]:=List.take_succ_eq_append_getElem hlt
  show tt (some (v as[i]) :: rest) H1 _
  refine ht _ hm _ hS _ fun H2 S2=>?_
  cases hf:f as[i] with
  | true=>
   rw [if_pos rfl]
   refine he _ hm _ _ ⟨by omega,as.length - (i+1),by omega,hS.trans S2,hlt,rfl,?_,_,rfl⟩
   rw [ts,List.filter_append,List.map_append,List.filter_cons_of_pos hf]
   rfl
  | false=>
   rw [if_neg Bool.false_ne_true]
   refine ⟨as.length - (i+1),by omega,hS.trans S2,hlt,rfl,?_,_,rfl⟩
   rw [ts,List.filter_append,List.filter_cons_of_neg (by rw [hf];exact Bool.false_ne_true)]
   simp
 ·have ei:i=as.length:=by omega
  subst ei
  refine .inl ⟨(S H' hS).stop _ (by rw [List.length_map];exact Nat.le_refl _),by omega,fun D hD=>?_⟩
  rw [List.take_length]
  exact hq H' D hS hD
end L3
namespace K15
open PySem PySem.Spec PyProof.Rows L2 L3 Vm
section
variable {P:Program} {w:World} {K:PySem.W.Frag} {mg:Str->Option Value} {base:Heap}
structure Dfn (K:PySem.W.Frag) (mg:Str->Option Value) (x:Str) (st:Stmt) (f:Addr) (fd:FuncData) (ps:List Str):Prop where
 fn:Fun K x x st f fd
 at_:mg x=some (.ref f)
 bn:Binds K fd ps []
theorem kit_same (v:Value):PySem.W.kitOne K v v=some true:=by
 unfold PySem.W.kitOne
 rw [if_pos (beq_self_eq_true _)]
def cellD (ns:List Int) (k:Int):Int:=(ns[k.toNat]?).getD 0
def spCell (K:PySem.W.Frag):Sp:=fun vs H Q _=>∃ (a:Addr) (ns:List Int) (k:Int),vs=[.ref a,.int k]/\SqL K H a (ns.map V.int)/\0<=k/\Q (.int (cellD ns k)) H
theorem scCell:FnScope ["script","k"] ["script","k"] (defScope sCell):=⟨rfl,rfl,rfl,by decide +kernel,rfl,by decide +kernel,by decide +kernel⟩
theorem ok_cell {f:Addr} {fd:FuncData} (F:Fun K "_law_cell_at" "_law_cell_at" sCell f fd) (mlen:mg "len" = none):FnOk P w K mg base CX0 1 f fd ["script","k"] (spCell K):=by
 refine Fun.okR F scCell (fun vs H Q E h=>?_) (fun cdv A outer s H vs Q Q2 E hr h hq=>?_)
 ·obtain ⟨a,ns,k,rfl,_⟩:=h
  rfl
 ·obtain ⟨a,ns,k,rfl,hS,h0,q⟩:=h
  refine ⟨_,pss_cons (ps_if (pt_cmpR op_lt (pv 1) (pe_callB call_len_seq (by rfl) mlen PySem.boot_len (pa_cons (pv 0) pa_nil)) (nomark _)) (pss_one (ps_ret (pe_ix ix_list (pv 0) (pv 1) (fun _ _=>rfl)))) pss_nil)
   (pss_one (ps_ret pe_int)),?_⟩
  refine ⟨_,rfl,_,rfl,a,_,rfl,.inl hS,_,_,rfl,rfl,_,rfl,?_⟩
  obtain ⟨j,hj⟩:∃ j:Nat,k=(j:Int):=⟨k.toNat,by omega⟩
  subst hj
  refine ite2 (fun h=>?_) (fun h=>?_)
  ·have hl:=of_decide_eq_true h
   rw [List.length_map] at hl
   have hj':j < ns.length:=by omega
   have e:cellD ns (j:Int)=ns[j]:=by unfold cellD;rw [Int.toNat_natCast,List.getElem?_eq_getElem hj'];rfl
   rw [e] at q
   exact ⟨_,rfl,_,rfl,a,_,_,_,rfl,rfl,hS,atI_nat (by rw [List.getElem?_map,List.getElem?_eq_getElem hj'];rfl),hq _ _ (Rst.same (Same.refl H) q)⟩
  ·have hl:¬ ((j:Int) < ((ns.map V.int).length:Int)):=fun c=>h (decide_eq_true c)
   rw [List.length_map] at hl
   have e:cellD ns (j:Int)=0:=by unfold cellD;rw [Int.toNat_natCast,List.getElem?_eq_none (by omega)];rfl
   rw [e] at q
   exact hq _ _ (Rst.same (Same.refl H) q)
def spSwW (K:PySem.W.Frag):Sp:=fun vs H Q _=>∃ (p q:Addr) (es cs:List Str) (i j:Nat),vs=[.ref p,.ref q,.int (i:Nat),.int (j:Nat)]/\SqT K H p (es.map V.str)/\SqT K H q (cs.map V.str)/\Q (.bl (swapW es cs i j)) H
theorem scSwW:FnScope ["elder","copy","i","j"] ["elder","copy","i","j"] (defScope sSwW):=⟨rfl,rfl,rfl,by decide +kernel,rfl,by decide +kernel,by decide +kernel⟩
theorem ok_sww {f:Addr} {fd:FuncData} (F:Fun K "swap_writes" "swap_writes" sSwW f fd) (mlen:mg "len" = none):FnOk P w K mg base CX0 1 f fd ["elder","copy","i","j"] (spSwW K):=by
 refine Fun.okR F scSwW (fun vs H Q E h=>?_) (fun cdv A outer s H vs Q Q2 E hr h hq=>?_)
 ·obtain ⟨p,q,es,cs,i,j,rfl,_⟩:=h
  rfl
 ·obtain ⟨p,q0,es,cs,i,j,rfl,hp,hc,q⟩:=h
  refine ⟨_,pss_cons (ps_if (pw_or (pt_cmpR op_ge (pe_op op_add (pv 2) pe_int) (pe_callB call_len_seq (by rfl) mlen PySem.boot_len (pa_cons (pv 0) pa_nil)) (nomark _)) (pw_or1 (pt_cmpR op_eq (pe_ix ix_tup (pv 0) (pv 2) (fun _ _=>rfl)) (pe_ix ix_tup (pv 0) (pe_op op_add (pv 2) pe_int) (fun _ _=>rfl)) (nomark _)))).pt (pss_one (ps_ret pe_bl)) pss_nil)
   (pss_one (ps_ret (pe_cmpR (op_eqS hr.units) (pe_slice sl_tupA (pv 1) (po_some (pv 3)) (po_some (pe_op op_add (pv 3) pe_int))) (pe_tup (pa_cons (pe_ix ix_tup (pv 0) (pe_op op_add (pv 2) pe_int) (fun _ _=>rfl)) (pa_cons (pe_ix ix_tup (pv 0) (pv 2) (fun _ _=>rfl)) pa_nil))) (nomark _)))),?_⟩
  have go:∀ b H',Same H H'->swapW es cs i j=b->Q2 (.bl b) H':=fun b H' S e=>hq _ _ (Rst.same S (by rw [<-e];exact q))
  have hlen:(es.map V.str).length=es.length:=List.length_map ..
  refine ⟨_,rfl,_,_,rfl,rfl,_,rfl,p,_,rfl,.inr hp,_,_,rfl,rfl,_,rfl,?_⟩
  rw [hlen]
  refine ite2 (fun h=>iteT (go _ _ (Same.refl _) ?_)) (fun h=>?_)
  ·have:=of_decide_eq_true h
   unfold swapW
   rw [if_neg (by omega)]
  have hi:¬ ((es.length:Int)<=((i:Nat):Int)+1):=fun c=>h (decide_eq_true c)
  have e1:((i:Nat):Int)+1=((i+1:Nat):Int):=by omega
  refine ⟨_,rfl,_,rfl,p,_,_,_,rfl,rfl,hp,at_w (by omega),_,rfl,_,rfl,_,_,rfl,rfl,p,_,_,_,rfl,rfl,hp,(by rw [e1];exact at_w (by omega)),rfl,_,rfl,?_⟩
  refine ite2 (fun h2=>go _ _ (Same.refl _) ?_) (fun h2=>?_)
  ·have e:=of_decide_eq_true h2
   injection e with e
   unfold swapW
   rw [if_pos (by omega),if_pos e]
  have hne:¬ gt es i=gt es (i+1):=fun c=>h2 (decide_eq_true (by rw [c]))
  refine ⟨_,rfl,_,rfl,_,rfl,_,rfl,_,_,rfl,rfl,_,rfl,cutTup hc fun pc Hc Sc hpc=>?_⟩
  rw [cutV_two] at hpc
  refine ⟨_,rfl,_,rfl,_,_,rfl,rfl,p,_,_,_,rfl,rfl,sameT Sc hp,(by rw [e1];exact at_w (by omega)),_,rfl,_,rfl,p,_,_,_,rfl,rfl,sameT Sc hp,at_w (by omega),few (by show 2<=_;omega),fun t ht=>?_⟩
  have St:=same_upd (o:=.tup [.str (gt es (i+1)),.str (gt es i)]) ht
  have q1:SqT K (upd Hc t (.tup [.str (gt es (i+1)),.str (gt es i)])) t ([gt es (i+1),gt es i].map V.str):=SqT.of upd_same
  refine ⟨0,_,by decide,EqS.strs (.inr ⟨sameT St hpc,q1⟩),go _ _ (Sc.trans St) ?_⟩
  unfold swapW
  rw [if_pos (by omega),if_neg hne]
def spSkL (K:PySem.W.Frag):Sp:=fun vs H Q _=>∃ (p:Addr) (es:List Str) (i:Nat),vs=[.ref p,.int (i:Nat)]/\SqT K H p (es.map V.str)/\i<=es.length/\es.length<=1000/\∀ l,H l=none->Q (.ref l) (upd H l (.lst ((skips es i).map fun k=>.int ((k:Nat):Int))))
theorem scSkL:FnScope ["elder","i"] ["elder","i"] (defScope sSkL):=⟨rfl,rfl,rfl,by decide +kernel,rfl,by decide +kernel,by decide +kernel⟩
theorem nd_kei:(["k","elder","i"]:List Str).Nodup:=by decide +kernel
theorem ok_skl {f:Addr} {fd:FuncData} (F:Fun K "skip_lengths" "skip_lengths" sSkL f fd) (mlen:mg "len" = none) (mrange:mg "range" = none):FnOk P w K mg base CX0 1 f fd ["elder","i"] (spSkL K):=by
 refine F.ok scSkL (fun vs H Q E h=>?_) (fun cdv A outer s H vs Q E hr h=>?_)
 ·obtain ⟨p,es,i,rfl,_⟩:=h
  rfl
 ·obtain ⟨p,es,i,rfl,hp,hi,hel,q⟩:=h
  refine ⟨_,pss_cons (ps_if (pt_cmpR op_eq (pv 1) pe_int (nomark _)) (pss_one (ps_ret (pe_lst pa_nil))) pss_nil)
   (pss_one (ps_ret (pe_comp (Nc:=["k","elder","i"]) (mp:=[none,some 0,some 1]) rfl (CompOk.of (by rfl)) (pi_range2 (by rfl) mrange (pa_cons pe_int (pa_cons (pe_op op_add (pe_op op_sub (pe_callB call_len_seq (by rfl) mlen PySem.boot_len (pa_cons (pv 0) pa_nil)) (pv 1)) pe_int) pa_nil)))
    (fun cl C s H fp=>⟨pg_name (i:=0) nd_kei rfl (Or.inl rfl),pts_one (pt_cmpR op_eq (pe_ix (ix_tupK (K:=K) rfl) (pv 1) (pe_op op_sub (pe_op op_add (pv 2) (pv 0)) pe_int) (fun _ _=>rfl)) (pe_ix (ix_tupK (K:=K) rfl) (pv 1) (pe_op op_sub (pv 2) pe_int) (fun _ _=>rfl)) (nomark _)),pv 0⟩)))),?_⟩
  have hlen:(es.map V.str).length=es.length:=List.length_map ..
  refine ⟨_,rfl,rfl,_,rfl,?_⟩
  by_cases h0:i=0
  ·refine iteY (by rw [h0];rfl) ⟨Nat.zero_le _,fun l hl=>?_⟩
   have:=q l hl
   unfold skips at this
   rw [if_pos h0] at this
   exact this
  refine iteK (fun e=>h0 (by injection e with e;omega)) ?_
  refine ⟨_,rfl,p,_,rfl,.inr hp,_,rfl,_,_,rfl,rfl,_,_,rfl,rfl,1,_,rfl,⟨by decide,by decide,by rw [hlen];omega,by rw [hlen];omega⟩,?_⟩
  have en:((((es.map V.str).length:Int) - ((i:Nat):Int)+1) - 1).toNat=es.length - i:=by rw [hlen];omega
  rw [en]
  refine comp_pure (as:=List.range (es.length - i)) (v:=fun k=>.int (1+((k:Nat):Int))) (fun k=>decide (gt es (i+k)=gt es (i - 1))) (fun k=>.int (1+((k:Nat):Int))) (src_range 1 (es.length - i) H) (by rw [List.length_range];exact few (by omega)) (fun k hk K' hK'=>?_) (fun k hk _ K' hK'=>⟨_,rfl,hK'⟩) (fun D hD=>?_)
  ·have hk':=List.mem_range.mp hk
   have e1:((i:Nat):Int)+(1+((k:Nat):Int)) - 1=((i+k:Nat):Int):=by omega
   have e2:((i:Nat):Int) - 1=((i - 1:Nat):Int):=by omega
   refine ⟨_,rfl,_,rfl,_,rfl,_,_,rfl,rfl,_,_,rfl,rfl,p,_,_,_,rfl,rfl,hp,(by rw [e1];exact at_w (by omega)),_,rfl,_,rfl,_,_,rfl,rfl,p,_,_,_,rfl,rfl,hp,(by rw [e2];exact at_w (by omega)),rfl,_,rfl,?_⟩
   rw [str_dec]
   exact hK'
  ·have:=q D hD
   unfold skips at this
   rw [if_neg h0,List.map_map] at this
   have ef:(fun k:Nat=>V.int (1+((k:Nat):Int)))=((fun k:Nat=>V.int ((k:Nat):Int)) ∘ fun x=>x+1):=by
    funext k
    show V.int (1+((k:Nat):Int))=V.int (((k+1:Nat)):Int)
    congr 1;omega
   rw [ef]
   exact this
def spWays (K:PySem.W.Frag):Sp:=fun vs H Q _=>∃ (p q:Addr) (es cs:List Str) (i j:Nat),vs=[.ref p,.ref q,.int (i:Nat),.int (j:Nat)]/\SqT K H p (es.map V.str)/\SqT K H q (cs.map V.str)/\i<=es.length/\j<=cs.length/\es.length<=1000 ∧
 ∀ (H':Hp) (l:Addr) (as:List Addr),Same H H'->H' l=some (.lst (as.map V.ref))->WaysAt H' as (ways es cs i j)->Q (.ref l) H'
theorem scWays:FnScope ["elder","copy","i","j","ways","step"] ["elder","copy","i","j"] (defScope sWays):=⟨rfl,rfl,rfl,by decide +kernel,rfl,by decide +kernel,by decide +kernel⟩
theorem nd_kij:(["k","i","j"]:List Str).Nodup:=by decide +kernel
theorem ok_ways {f gS gK:Addr} {fd dS dK:FuncData} (F:Fun K "knot_ways" "knot_ways" sWays f fd) (DS:Dfn K mg "swap_writes" sSwW gS dS ["elder","copy","i","j"]) (DK:Dfn K mg "skip_lengths" sSkL gK dK ["elder","i"]) (mlen:mg "len" = none) (mrange:mg "range" = none):FnOk P w K mg base CX0 2 f fd ["elder","copy","i","j"] (spWays K):=by
 have GS:FnOk P w K mg base CX0 1 gS dS ["elder","copy","i","j"] (spSwW K):=ok_sww DS.fn mlen
 have GK:FnOk P w K mg base CX0 1 gK dK ["elder","i"] (spSkL K):=ok_skl DK.fn mlen mrange
 refine F.ok scWays (fun vs H Q E h=>?_) (fun cdv A outer s H vs Q E hr h=>?_)
 ·obtain ⟨p,q,es,cs,i,j,rfl,_⟩:=h
  rfl
 ·obtain ⟨p,q0,es,cs,i,j,rfl,hp,hc,hi,hj,hel,q⟩:=h
  refine ⟨_,pss_cons (ps_set (i:=4) scWays.nd rfl (Or.inl rfl) (pe_lst pa_nil))
   (pss_cons (ps_mid (ps_if (pw_and (pt_cmpR op_lt (pv 2) (pe_callB call_len_seq (by rfl) mlen PySem.boot_len (pa_cons (pv 0) pa_nil)) (nomark _)) (pw_and1 (pt_cmpR op_lt (pv 3) (pe_callB call_len_seq (by rfl) mlen PySem.boot_len (pa_cons (pv 1) pa_nil)) (nomark _)))).pt
    (pss_cons (ps_set (i:=5) scWays.nd rfl (Or.inl rfl) (pe_ifExp (pt_cmpR op_eq (pe_ix ix_tup (pv 0) (pv 2) (fun _ _=>rfl)) (pe_ix ix_tup (pv 1) (pv 3) (fun _ _=>rfl)) (nomark _)) (pe_tup (pa_cons pe_str pa_nil)) (pe_tup (pa_cons pe_str (pa_cons (pe_ix ix_tup (pv 1) (pv 3) (fun _ _=>rfl)) pa_nil)))))
    (pss_one (ps_expr (pe_bm PySem.F.plainAttrs_list PySem.F.slot_list_append PySem.F.type_list_append mt_append (pv 4) (pa_cons (pe_tup (pa_cons (pv 5) (pa_cons (pe_op op_add (pv 2) pe_int) (pa_cons (pe_op op_add (pv 3) pe_int) pa_nil)))) pa_nil))))) pss_nil))
   (pss_cons (ps_mid (ps_if (pt_cmpR op_lt (pv 2) (pe_callB call_len_seq (by rfl) mlen PySem.boot_len (pa_cons (pv 0) pa_nil)) (nomark _)) (pss_one (ps_expr (pe_bm PySem.F.plainAttrs_list PySem.F.slot_list_append PySem.F.type_list_append mt_append (pv 4) (pa_cons (pe_tup (pa_cons (pe_tup (pa_cons pe_str pa_nil)) (pa_cons (pe_op op_add (pv 2) pe_int) (pa_cons (pv 3) pa_nil)))) pa_nil)))) pss_nil))
   (pss_cons (ps_mid (ps_if (pt_cmpR op_lt (pv 3) (pe_callB call_len_seq (by rfl) mlen PySem.boot_len (pa_cons (pv 1) pa_nil)) (nomark _)) (pss_one (ps_expr (pe_bm PySem.F.plainAttrs_list PySem.F.slot_list_append PySem.F.type_list_append mt_append (pv 4) (pa_cons (pe_tup (pa_cons (pe_tup (pa_cons pe_str (pa_cons (pe_ix ix_tup (pv 1) (pv 3) (fun _ _=>rfl)) pa_nil))) (pa_cons (pv 2) (pa_cons (pe_op op_add (pv 3) pe_int) pa_nil)))) pa_nil)))) pss_nil))
   (pss_cons (ps_mid (ps_if (pw_and (pt_chain op_lt op_lt pe_int (pv 3) (pe_callB call_len_seq (by rfl) mlen PySem.boot_len (pa_cons (pv 1) pa_nil))) (pw_and1 (pt_cmpR op_eq (pe_ix ix_tup (pv 1) (pv 3) (fun _ _=>rfl)) (pe_ix ix_tup (pv 1) (pe_op op_sub (pv 3) pe_int) (fun _ _=>rfl)) (nomark _)))).pt
    (pss_one (ps_expr (pe_bm PySem.F.plainAttrs_list PySem.F.slot_list_append PySem.F.type_list_append mt_append (pv 4) (pa_cons (pe_tup (pa_cons (pe_tup (pa_cons pe_str pa_nil)) (pa_cons (pv 2) (pa_cons (pe_op op_add (pv 3) pe_int) pa_nil)))) pa_nil)))) pss_nil))
   (pss_cons (ps_mid (ps_if (pt_val (pe_call GS hr (by rfl) DS.at_ DS.fn.kp DS.bn .nil pass0 (pa_cons (pv 0) (pa_cons (pv 1) (pa_cons (pv 2) (pa_cons (pv 3) pa_nil)))))) (pss_one (ps_expr (pe_bm PySem.F.plainAttrs_list PySem.F.slot_list_append PySem.F.type_list_append mt_append (pv 4) (pa_cons (pe_tup (pa_cons (pe_tup (pa_cons pe_str pa_nil)) (pa_cons (pe_op op_add (pv 2) pe_int) (pa_cons (pe_op op_add (pv 3) pe_int) pa_nil)))) pa_nil)))) pss_nil))
   (pss_cons (ps_expr (pe_bm PySem.F.plainAttrs_list PySem.F.slot_list_extend PySem.F.type_list_extend mt_extend (pv 4) (pa_cons (pe_comp (Nc:=["k","i","j"]) (mp:=[none,some 2,some 3]) rfl (CompOk.of (by rfl)) (pi_list (pe_call GK hr (by rfl) DK.at_ DK.fn.kp DK.bn .nil pass0 (pa_cons (pv 0) (pa_cons (pv 2) pa_nil))))
    (fun cl C s H fp=>⟨pg_name (i:=0) nd_kij rfl (Or.inl rfl),pts_nil,pe_tup (pa_cons (pe_tup (pa_cons pe_str (pa_cons (pv 0) pa_nil))) (pa_cons (pe_op op_add (pv 1) (pv 0)) (pa_cons (pv 2) pa_nil)))⟩)) pa_nil)))
   (pss_one (ps_ret (pv 4))))))))),?_⟩
  have z1:(1:Nat)<=sizeLine:=few (by omega)
  have z2:(2:Nat)<=sizeLine:=few (by omega)
  have z3:(3:Nat)<=sizeLine:=few (by omega)
  have hle:(es.map V.str).length=es.length:=List.length_map ..
  have hlc:(cs.map V.str).length=cs.length:=List.length_map ..
  have ei1:((i:Nat):Int)+1=((i+1:Nat):Int):=by omega
  have ej1:((j:Nat):Int)+1=((j+1:Nat):Int):=by omega
  have ei2:((i:Nat):Int)+2=((i+2:Nat):Int):=by omega
  have ej2:((j:Nat):Int)+2=((j+2:Nat):Int):=by omega
  have dle:decide (((i:Nat):Int) < ((es.map V.str).length:Int))=decide (i < es.length):=by rw [hle];exact decide_eq_decide.mpr (by omega)
  have dlc:decide (((j:Nat):Int) < ((cs.map V.str).length:Int))=decide (j < cs.length):=by rw [hlc];exact decide_eq_decide.mpr (by omega)
  refine ⟨Nat.zero_le _,fun l hl=>?_⟩
  refine ⟨fun σ' H'=>∃ (v5:Option V) (as:List Addr),σ'=[some (.ref p),some (.ref q0),some (.int (i:Nat)),some (.int (j:Nat)),some (.ref l),v5]/\H' l=some (.lst (as.map V.ref))/\Same H H'/\WaysAt H' as (w1 es cs i j)/\as.length<=1,?_,?_⟩
  ·refine ⟨_,rfl,_,rfl,p,_,rfl,.inr (sameT (same_upd hl) hp),_,_,rfl,rfl,_,rfl,?_⟩
   rw [dle]
   refine ite2 (fun h1=>?_) (fun h1=>iteF ⟨none,[],rfl,upd_same,same_upd hl,?_,Nat.zero_le _⟩)
   ·have h1:=of_decide_eq_true h1
    refine ⟨_,rfl,_,rfl,q0,_,rfl,.inr (sameT (same_upd hl) hc),_,_,rfl,rfl,_,rfl,?_⟩
    rw [dlc]
    refine ite2 (fun h2=>?_) (fun h2=>⟨none,[],rfl,upd_same,same_upd hl,?_,Nat.zero_le _⟩)
    ·have h2:=of_decide_eq_true h2
     have ew:w1 es cs i j=[((if gt es i=gt cs j then .keep else .turn (gt cs j)),i+1,j+1)]:=by unfold w1;rw [if_pos ⟨h1,h2⟩]
     rw [ew]
     have S0:=same_upd (o:=.lst []) hl
     have l0:upd H l (.lst []) l=some (.lst (([]:List Addr).map V.ref)):=upd_same
     refine ⟨_,rfl,_,rfl,p,_,_,_,rfl,rfl,sameT S0 hp,at_w h1,_,rfl,_,rfl,q0,_,_,_,rfl,rfl,sameT S0 hc,at_w h2,rfl,_,rfl,?_⟩
     have fin:∀ st:Sk,(if gt es i=gt cs j then Sk.keep else .turn (gt cs j))=st->∀ t,upd H l (.lst []) t=none->∀ a,upd (upd H l (.lst [])) t (.tup (stepV st)) a=none →
       upd (upd (upd H l (.lst [])) t (.tup (stepV st))) a (.tup (wayV t (st,i+1,j+1))) l=some (.lst (([]:List Addr).map V.ref)) ∧
       ∃ (v5:Option V) (as:List Addr),[some (V.ref p),some (V.ref q0),some (V.int (i:Nat)),some (V.int (j:Nat)),some (V.ref l),some (V.ref t)]=[some (.ref p),some (.ref q0),some (.int (i:Nat)),some (.int (j:Nat)),some (.ref l),v5] ∧
        upd (upd (upd (upd H l (.lst [])) t (.tup (stepV st))) a (.tup (wayV t (st,i+1,j+1)))) l (.lst (([]:List Addr).map V.ref++[.ref a])) l=some (.lst (as.map V.ref)) ∧
        Same H (upd (upd (upd (upd H l (.lst [])) t (.tup (stepV st))) a (.tup (wayV t (st,i+1,j+1)))) l (.lst (([]:List Addr).map V.ref++[.ref a]))) ∧
        WaysAt (upd (upd (upd (upd H l (.lst [])) t (.tup (stepV st))) a (.tup (wayV t (st,i+1,j+1)))) l (.lst (([]:List Addr).map V.ref++[.ref a]))) as [((if gt es i=gt cs j then .keep else .turn (gt cs j)),i+1,j+1)]/\as.length<=1:=fun st e t ht a ha=>by
      obtain ⟨b1,b2,b3,b4⟩:=way_add (x:=(st,i+1,j+1)) S0 hl l0 WaysAt.nil ht ha
      exact ⟨b1,_,[a],rfl,b2,b3,by rw [e];exact b4,Nat.le_refl _⟩
     by_cases he:gt es i=gt cs j
     ·refine iteY (by rw [he]) ⟨z1,fun t ht=>?_⟩
      have k1:=same_upd (o:=.tup (stepV .keep)) ht _ _ l0
      refine ⟨_,rfl,.inl ⟨rfl,_,SqL.of k1⟩,_,rfl,_,rfl,_,_,rfl,rfl,_,rfl,_,_,rfl,rfl,z3,fun a ha=>?_⟩
      obtain ⟨c1,c2⟩:=fin .keep (by rw [if_pos he]) t ht a ha
      exact ⟨l,_,_,rfl,rfl,c1,fewer (by show 0<=_;omega),c2⟩
     ·refine iteK (fun e=>he (by injection e)) ⟨_,rfl,_,rfl,q0,_,_,_,rfl,rfl,sameT S0 hc,at_w h2,z2,fun t ht=>?_⟩
      have k1:=same_upd (o:=.tup (stepV (.turn (gt cs j)))) ht _ _ l0
      refine ⟨_,rfl,.inl ⟨rfl,_,SqL.of k1⟩,_,rfl,_,rfl,_,_,rfl,rfl,_,rfl,_,_,rfl,rfl,z3,fun a ha=>?_⟩
      obtain ⟨c1,c2⟩:=fin (.turn (gt cs j)) (by rw [if_neg he]) t ht a ha
      exact ⟨l,_,_,rfl,rfl,c1,fewer (by show 0<=_;omega),c2⟩
    ·have h2:¬ j < cs.length:=fun c=>h2 (decide_eq_true c)
     unfold w1
     rw [if_neg (by omega)]
     exact WaysAt.nil
   ·have h1:¬ i < es.length:=fun c=>h1 (decide_eq_true c)
    unfold w1
    rw [if_neg (by omega)]
    exact WaysAt.nil
  rintro σ' H1 ⟨v5,as1,rfl,k1,S1,W1,L1⟩
  -- one way more,or none: the rest of the ifs
  have step:∀ {H2:Hp} {as:List Addr} {ws:List Way} (x:Way),H2 l=some (.lst (as.map V.ref))->Same H H2->WaysAt H2 as ws->∀ t,H2 t=none->∀ a,upd H2 t (.tup (stepV x.1)) a=none →
    upd (upd H2 t (.tup (stepV x.1))) a (.tup (wayV t x)) l=some (.lst (as.map V.ref))/\upd (upd (upd H2 t (.tup (stepV x.1))) a (.tup (wayV t x))) l (.lst (as.map V.ref++[.ref a])) l=some (.lst ((as++[a]).map V.ref)) ∧
    Same H (upd (upd (upd H2 t (.tup (stepV x.1))) a (.tup (wayV t x))) l (.lst (as.map V.ref++[.ref a])))/\WaysAt (upd (upd (upd H2 t (.tup (stepV x.1))) a (.tup (wayV t x))) l (.lst (as.map V.ref++[.ref a]))) (as++[a]) (ws++[x]):=fun x k S W t ht a ha=>way_add S hl k W ht ha
  -- lose
  refine ⟨fun σ' H'=>∃ (v5:Option V) (as:List Addr),σ'=[some (.ref p),some (.ref q0),some (.int (i:Nat)),some (.int (j:Nat)),some (.ref l),v5]/\H' l=some (.lst (as.map V.ref))/\Same H H'/\WaysAt H' as (w1 es cs i j++w2 es i j)/\as.length<=2,?_,?_⟩
  ·refine ⟨_,rfl,_,rfl,p,_,rfl,.inr (sameT S1 hp),_,_,rfl,rfl,_,rfl,?_⟩
   rw [dle]
   refine ite2 (fun h=>?_) (fun h=>⟨v5,as1,rfl,k1,S1,?_,by omega⟩)
   ·have h:=of_decide_eq_true h
    refine ⟨_,rfl,.inl ⟨rfl,_,SqL.of k1⟩,z1,fun t ht=>?_⟩
    refine ⟨_,rfl,_,_,rfl,rfl,_,rfl,z3,fun a ha=>?_⟩
    obtain ⟨c1,c2,c3,c4⟩:=step (.lose,i+1,j) k1 S1 W1 t ht a ha
    refine ⟨l,_,_,rfl,rfl,c1,(by rw [List.length_map];exact fewer (by omega)),v5,as1++[a],rfl,c2,c3,?_,by rw [List.length_append];show _+1<=_;omega⟩
    unfold w2
    rw [if_pos h]
    exact c4
   ·have h:¬ i < es.length:=fun c=>h (decide_eq_true c)
    unfold w2
    rw [if_neg h,List.append_nil]
    exact W1
  rintro σ' H2 ⟨v5,as2,rfl,k2,S2,W2,L2⟩
  -- add
  refine ⟨fun σ' H'=>∃ (v5:Option V) (as:List Addr),σ'=[some (.ref p),some (.ref q0),some (.int (i:Nat)),some (.int (j:Nat)),some (.ref l),v5]/\H' l=some (.lst (as.map V.ref))/\Same H H'/\WaysAt H' as (w1 es cs i j++w2 es i j++w3 cs i j)/\as.length<=3,?_,?_⟩
  ·refine ⟨_,rfl,_,rfl,q0,_,rfl,.inr (sameT S2 hc),_,_,rfl,rfl,_,rfl,?_⟩
   rw [dlc]
   refine ite2 (fun h=>?_) (fun h=>⟨v5,as2,rfl,k2,S2,?_,by omega⟩)
   ·have h:=of_decide_eq_true h
    refine ⟨_,rfl,.inl ⟨rfl,_,SqL.of k2⟩,_,rfl,_,rfl,q0,_,_,_,rfl,rfl,sameT S2 hc,at_w h,z2,fun t ht=>?_⟩
    refine ⟨_,rfl,_,rfl,_,_,rfl,rfl,z3,fun a ha=>?_⟩
    obtain ⟨c1,c2,c3,c4⟩:=step (.add (gt cs j),i,j+1) k2 S2 W2 t ht a ha
    refine ⟨l,_,_,rfl,rfl,c1,(by rw [List.length_map];exact fewer (by omega)),v5,as2++[a],rfl,c2,c3,?_,by rw [List.length_append];show _+1<=_;omega⟩
    unfold w3
    rw [if_pos h]
    exact c4
   ·have h:¬ j < cs.length:=fun c=>h (decide_eq_true c)
    unfold w3
    rw [if_neg h,List.append_nil]
    exact W2
  rintro σ' H3 ⟨v5,as3,rfl,k3,S3,W3,L3⟩
  -- twice
  refine ⟨fun σ' H'=>∃ (v5:Option V) (as:List Addr),σ'=[some (.ref p),some (.ref q0),some (.int (i:Nat)),some (.int (j:Nat)),some (.ref l),v5]/\H' l=some (.lst (as.map V.ref))/\Same H H'/\WaysAt H' as (w1 es cs i j++w2 es i j++w3 cs i j++w4 cs i j)/\as.length<=4,?_,?_⟩
  ·have none4:¬ (0 < j/\j < cs.length/\gt cs j=gt cs (j - 1))->∃ (v5':Option V) (as:List Addr),[some (V.ref p),some (V.ref q0),some (V.int (i:Nat)),some (V.int (j:Nat)),some (V.ref l),v5]=[some (.ref p),some (.ref q0),some (.int (i:Nat)),some (.int (j:Nat)),some (.ref l),v5']/\H3 l=some (.lst (as.map V.ref))/\Same H H3/\WaysAt H3 as (w1 es cs i j++w2 es i j++w3 cs i j++w4 cs i j)/\as.length<=4:=fun h=>by
    refine ⟨v5,as3,rfl,k3,S3,?_,by omega⟩
    unfold w4
    rw [if_neg h,List.append_nil]
    exact W3
   refine ⟨_,rfl,_,_,rfl,rfl,_,rfl,?_⟩
   refine ite2 (fun h0=>?_) (fun h0=>?_)
   ·have h0:=of_decide_eq_true h0
    refine ⟨_,rfl,q0,_,rfl,.inr (sameT S3 hc),_,_,rfl,rfl,_,rfl,?_⟩
    rw [dlc]
    refine ite2 (fun h1=>?_) (fun h1=>iteF (none4 fun c=>h1 (decide_eq_true c.2.1)))
    have h1:=of_decide_eq_true h1
    have e2:((j:Nat):Int) - 1=((j - 1:Nat):Int):=by omega
    refine ⟨_,rfl,_,rfl,q0,_,_,_,rfl,rfl,sameT S3 hc,at_w h1,_,rfl,_,rfl,_,_,rfl,rfl,q0,_,_,_,rfl,rfl,sameT S3 hc,(by rw [e2];exact at_w (by omega)),rfl,_,rfl,?_⟩
    refine ite2 (fun h2=>?_) (fun h2=>none4 fun c=>h2 (decide_eq_true (by rw [c.2.2])))
    have h2:=of_decide_eq_true h2
    injection h2 with h2
    refine ⟨_,rfl,.inl ⟨rfl,_,SqL.of k3⟩,z1,fun t ht=>?_⟩
    refine ⟨_,rfl,_,rfl,_,_,rfl,rfl,z3,fun a ha=>?_⟩
    obtain ⟨c1,c2,c3,c4⟩:=step (.twice,i,j+1) k3 S3 W3 t ht a ha
    refine ⟨l,_,_,rfl,rfl,c1,(by rw [List.length_map];exact fewer (by omega)),v5,as3++[a],rfl,c2,c3,?_,by rw [List.length_append];show _+1<=_;omega⟩
    unfold w4
    rw [if_pos ⟨by omega,h1,h2⟩]
    exact c4
   ·have h0:¬ ((0:Int) < ((j:Nat):Int)):=fun c=>h0 (decide_eq_true c)
    exact ⟨_,rfl,iteF (iteF (none4 fun c=>h0 (by omega)))⟩
  rintro σ' H4 ⟨v5,as4,rfl,k4,S4,W4,L4⟩
  -- swap
  refine ⟨fun σ' H'=>∃ (v5:Option V) (as:List Addr),σ'=[some (.ref p),some (.ref q0),some (.int (i:Nat)),some (.int (j:Nat)),some (.ref l),v5]/\H' l=some (.lst (as.map V.ref))/\Same H H'/\WaysAt H' as (w1 es cs i j++w2 es i j++w3 cs i j++w4 cs i j++w5 es cs i j)/\as.length<=5,?_,?_⟩
  ·refine ⟨_,rfl,_,rfl,_,rfl,_,rfl,p,q0,es,cs,i,j,rfl,sameT S4 hp,sameT S4 hc,_,rfl,?_⟩
   cases hsw:swapW es cs i j with
   | false=>
    refine iteF ⟨v5,as4,rfl,k4,S4,?_,by omega⟩
    unfold w5
    rw [hsw,if_neg Bool.false_ne_true,List.append_nil]
    exact W4
   | true=>
    refine iteT ⟨_,rfl,.inl ⟨rfl,_,SqL.of k4⟩,z1,fun t ht=>?_⟩
    refine ⟨_,rfl,_,_,rfl,rfl,_,rfl,_,_,rfl,rfl,z3,fun a ha=>?_⟩
    obtain ⟨c1,c2,c3,c4⟩:=step (.swap,i+2,j+2) k4 S4 W4 t ht a ha
    refine ⟨l,_,_,rfl,rfl,c1,(by rw [List.length_map];exact fewer (by omega)),v5,as4++[a],rfl,c2,c3,?_,by rw [List.length_append];show _+1<=_;omega⟩
    unfold w5
    rw [hsw,if_pos rfl]
    exact c4
  rintro σ' H5 ⟨v5,as5,rfl,k5,S5,W5,L5⟩
  -- skips
  have hskl:(skips es i).length<=1000:=by
   unfold skips
   split
   ·exact Nat.zero_le _
   ·rw [List.length_map]
    exact Nat.le_trans (List.length_filter_le _ _) (by rw [List.length_range];omega)
  refine ⟨_,rfl,.inl ⟨rfl,_,SqL.of k5⟩,_,rfl,_,rfl,p,es,i,rfl,sameT S5 hp,hi,hel,fun ls hls=>?_⟩
  have S6:=same_upd (o:=.lst ((skips es i).map fun k=>.int ((k:Nat):Int))) hls
  have s6:upd H5 ls (.lst ((skips es i).map fun k=>.int ((k:Nat):Int))) ls=some (.lst ((skips es i).map fun k=>.int ((k:Nat):Int))):=upd_same
  generalize hH6:upd H5 ls (.lst ((skips es i).map fun k=>.int ((k:Nat):Int)))=H6 at S6 s6
  refine ⟨ls,rfl,⟨_,SqL.of s6⟩,comp_grow (as:=skips es i) (v:=fun k=>.int ((k:Nat):Int)) (fun n acc H'=>∃ bs:List Addr,acc=bs.map V.ref/\WaysAt H' bs ((w6 es i j).take n)/\bs.length=n/\Same H6 H') (fun n acc H' _ ⟨_,_,_,_,S⟩=>src_list (SqL.of (S _ _ s6))) (few (by omega))
   ⟨[],rfl,WaysAt.nil,rfl,Same.refl _⟩ (fun n acc H' ⟨bs,e,_,hl,_⟩=>by rw [e,List.length_map,hl]) ?_ ?_⟩
  ·rintro n k acc H' hk ⟨bs,rfl,hW,hbl,S⟩ kk hkk
   refine ⟨_,rfl,z2,fun t ht=>?_⟩
   refine ⟨_,rfl,_,rfl,_,_,rfl,rfl,_,rfl,z3,fun a ha=>?_⟩
   have T1:=same_upd (o:=.tup (stepV (.skip k))) ht
   have ek:((i:Nat):Int)+((k:Nat):Int)=((i+k:Nat):Int):=by omega
   have T2:=same_upd (o:=.tup (wayV t (.skip k,i+k,j))) ha
   refine hkk _ _ ⟨bs++[a],by rw [List.map_append];rfl,?_,by rw [List.length_append,hbl];rfl,(S.trans T1).trans T2⟩
   have hnl:n < (w6 es i j).length:=by unfold w6;rw [List.length_map];exact (List.getElem?_eq_some_iff.mp hk).1
   have hx:(w6 es i j)[n]?=some (.skip k,i+k,j):=by unfold w6;rw [List.getElem?_map,hk];rfl
   rw [List.take_succ_eq_append_getElem hnl,(List.getElem?_eq_some_iff.mp hx).2]
   exact ((hW.mono T1).mono T2).app (WaysAt.one (x:=(.skip k,i+k,j)) upd_same (T2 _ _ upd_same))
  ·rintro acc H7 ⟨bs,rfl,hW,hbl,S7⟩ D hD
   have S8:=same_upd (o:=.lst (bs.map V.ref)) hD
   have k8:=S8 _ _ (S7 _ _ (S6 _ _ k5))
   have w8:(w6 es i j).take (skips es i).length=w6 es i j:=by
    have:(w6 es i j).length=(skips es i).length:=by unfold w6;rw [List.length_map]
    rw [<-this,List.take_length]
   rw [w8] at hW
   refine ⟨l,D,_,_,rfl,rfl,k8,upd_same,(by rw [List.length_map,List.length_map,hbl];exact few (by omega)),?_⟩
   refine ⟨_,rfl,q _ l (as5++bs) (same_to ((((S5.trans S6).trans S7)).trans S8) hl) (by rw [upd_same,List.map_append]) ?_⟩
   unfold ways
   exact ((((W5.mono S6).mono S7).mono S8).app (hW.mono S8)).set k8
def spAlike:Sp:=fun vs H Q _=>∃ a b:Str,vs=[.str a,.str b]/\a.length<=sizeLine/\b.length<=sizeLine/\Q (.bl (alikeB a.cps.toList b.cps.toList)) H
theorem scLooks:FnScope ["one","two","unlike"] ["one","two"] (defScope sLooks):=⟨rfl,rfl,rfl,by decide +kernel,rfl,by decide +kernel,by decide +kernel⟩
theorem nd_Looks:(["place","one","two"]:List Str).Nodup:=by decide +kernel
theorem ok_Looks {f:Addr} {fd:FuncData} (F:Fun K "looks_alike" "looks_alike" sLooks f fd) (mlen:mg "len" = none) (mrange:mg "range" = none):FnOk P w K mg base CX0 1 f fd ["one","two"] spAlike:=by
 refine Fun.okR F scLooks (fun vs H Q E h=>?_) (fun cdv A outer s H vs Q Q2 E hr h hq=>?_)
 ·obtain ⟨a,b,rfl,_⟩:=h
  rfl
 ·obtain ⟨a,b,rfl,ha,hb,q⟩:=h
  refine ⟨_,pss_cons (ps_if (pt_cmpR op_ne (pe_callB call_len_str (by rfl) mlen PySem.boot_len (pa_cons (pv 0) pa_nil)) (pe_callB call_len_str (by rfl) mlen PySem.boot_len (pa_cons (pv 1) pa_nil)) (nomark _)) (pss_one (ps_ret pe_bl)) pss_nil)
   (pss_cons (ps_setC (i:=2) (Nc:=["place","one","two"]) (mp:=[none,some 0,some 1]) rfl scLooks.nd rfl rfl (CompOk.of (by rfl)) (pi_range1 (by rfl) mrange (pa_cons (pe_callB call_len_str (by rfl) mlen PySem.boot_len (pa_cons (pv 0) pa_nil)) pa_nil))
    (fun cl C s H fp=>⟨pg_name (i:=0) nd_Looks rfl (Or.inl rfl),pts_one (pt_cmpR op_ne (pe_ix ix_str (pv 1) (pv 0) (fun _ _=>rfl)) (pe_ix ix_str (pv 2) (pv 0) (fun _ _=>rfl)) (nomark _)),pv 0⟩))
   (pss_one (ps_ret (pe_cmpR op_eq (pe_callB call_len_seq (by rfl) mlen PySem.boot_len (pa_cons (pv 2) pa_nil)) pe_int (nomark _))))),?_⟩
  refine ⟨_,rfl,a,rfl,ha,_,rfl,b,rfl,hb,rfl,_,rfl,?_⟩
  by_cases hl:a.length=b.length
  ·refine iteNS (by rw [hl]) ?_
   refine ⟨_,rfl,a,rfl,ha,(a.length:Int),rfl,(by omega),(by have:=szl;omega),?_⟩
   rw [Int.toNat_natCast]
   refine comp_pure (as:=List.range a.length) (v:=fun i=>.int (0+(i:Nat))) (fun i=>!decide (a.cps.toList[i]?=b.cps.toList[i]?)) (fun i=>.int (0+(i:Nat))) (src_range 0 a.length H) (by rw [List.length_range];exact ha) (fun i hi k hk=>?_) (fun i hi _ k hk=>?_) (fun D hD=>?_)
   ·have hi':=List.mem_range.mp hi
    have ea:a.cps.toList[i]?=some a.cps.toList[i]:=List.getElem?_eq_getElem (by rw [clen];exact hi')
    have eb:b.cps.toList[i]?=some b.cps.toList[i]:=List.getElem?_eq_getElem (by rw [clen,<-hl];exact hi')
    have ei:(0:Int)+((i:Nat):Int)=((i:Nat):Int):=by omega
    refine ⟨_,rfl,_,rfl,a,_,a.cps.toList[i],rfl,rfl,ha,(by rw [ei];exact atI_nat ea),_,rfl,_,rfl,b,_,b.cps.toList[i],rfl,rfl,hb,(by rw [ei];exact atI_nat eb),rfl,_,rfl,?_⟩
    have e:(!decide (V.str ⟨#[a.cps.toList[i]]⟩=V.str ⟨#[b.cps.toList[i]]⟩))=(!decide (a.cps.toList[i]?=b.cps.toList[i]?)):=by
     rw [ea,eb]
     congr 1
     exact decide_eq_decide.mpr ⟨fun z=>by injection z with z;injection z with z;simpa using z,fun z=>by rw [Option.some.inj z]⟩
    rw [e];exact hk
   ·exact ⟨_,rfl,hk⟩
   ·refine ⟨_,rfl,D,_,rfl,.inl (SqL.of upd_same),rfl,hq _ _ (Rst.same (same_upd hD) ?_)⟩
    rw [List.length_map]
    have e:decide (V.int (((List.range a.length).filter fun i=>!decide (a.cps.toList[i]?=b.cps.toList[i]?)).length:Nat)=V.int 1)=alikeB a.cps.toList b.cps.toList:=by
     unfold alikeB placesB
     rw [if_pos (by rw [clen,clen];exact hl),clen]
     exact decide_eq_decide.mpr ⟨fun z=>by injection z with z;omega,fun z=>by rw [z];rfl⟩
    rw [e];exact q
  ·refine ite2 (fun _=>?_) (fun h=>?_)
   ·refine hq _ _ (Rst.same (Same.refl H) ?_)
    have e:alikeB a.cps.toList b.cps.toList=false:=by
     unfold alikeB
     rw [if_neg (by rw [clen,clen];exact hl)]
    rw [<-e];exact q
   ·exfalso
    refine h ?_
    rw [decide_eq_false (fun z=>hl (by injection z with z;omega))];rfl
structure Places (w:World) (K:PySem.W.Frag) (a:Addr) (es:Array DictEntry) (n:Nat):Prop where
 at_:K.lookup a=some ⟨.type "dict",none,.dict es n,#[]⟩
 keys:PySem.W.KeysLit w.params es.toList
 p1:∃ t,PySem.W.nsIn K a "turn" = some (some (.int 1 t))
 p2:∃ t,PySem.W.nsIn K a "lose" = some (some (.int 2 t))
 p3:∃ t,PySem.W.nsIn K a "add" = some (some (.int 3 t))
 p4:∃ t,PySem.W.nsIn K a "twice" = some (some (.int 4 t))
 p5:∃ t,PySem.W.nsIn K a "swap" = some (some (.int 5 t))
 p6:∃ t,PySem.W.nsIn K a "skip" = some (some (.int 6 t))
def gI (pr:List Int) (i:Nat):Int:=(pr[i]?).getD 0
theorem at_p {pr:List Int} {i:Nat} (h:i < pr.length):atI (pr.map V.int) (i:Int)=some (.int (gI pr i)):=atI_nat (by rw [List.getElem?_map,List.getElem?_eq_getElem h];unfold gI;rw [List.getElem?_eq_getElem h];rfl)
def price (es:List Str) (d:Nat) (pr:List Int):Sk->Int
 | .keep=>0
 | .turn z=>if alikeB (gt es d).cps.toList z.cps.toList=true then gI pr 0 else gI pr 1
 | .lose=>gI pr 2
 | .add _=>gI pr 3
 | .twice=>gI pr 4
 | .swap=>gI pr 5
 | .skip _=>gI pr 6
def turnOk (es:List Str) (d:Nat):Sk->Prop
 | .turn _=>d < es.length
 | _=>True
def spPrice (K:PySem.W.Frag):Sp:=fun vs H Q _=>∃ (p t q:Addr) (es:List Str) (d:Nat) (st:Sk) (pr:List Int),vs=[.ref p,.int (d:Nat),.ref t,.ref q]/\SqT K H p (es.map V.str)/\(∀ z ∈ es,Good z)/\SqT K H t (stepV st)/\okS st/\turnOk es d st/\SqT K H q (pr.map V.int)/\pr.length=7/\Q (.int (price es d pr st)) H
theorem scPrice:FnScope ["elder","done","step","prices","kind"] ["elder","done","step","prices"] (defScope sPrice):=⟨rfl,rfl,rfl,by decide +kernel,rfl,by decide +kernel,by decide +kernel⟩
theorem ok_price {f gL aD:Addr} {fd dL:FuncData} {esD:Array DictEntry} {nD:Nat} (F:Fun K "step_price" "step_price" sPrice f fd) (DL:Dfn K mg "looks_alike" sLooks gL dL ["one","two"]) (GL:FnOk P w K mg base CX0 1 gL dL ["one","two"] spAlike)
  {tl:Tok} (mL:mg "LIKE" = some (.int 0 tl)) (mP:mg "PRICE_PLACES" = some (.ref aD)) (PL:Places w K aD esD nD):FnOk P w K mg base CX0 2 f fd ["elder","done","step","prices"] (spPrice K):=by
 refine Fun.okR F scPrice (fun vs H Q E h=>?_) (fun cdv A outer s H vs Q Q2 E hr h hq=>?_)
 ·obtain ⟨p,t,q,es,d,st,pr,rfl,_⟩:=h
  rfl
 ·obtain ⟨p,t,r,es,d,st,pr,rfl,hp,hg,ht,hok,hto,hpr,hl7,q⟩:=h
  refine ⟨_,pss_cons (ps_set (i:=4) scPrice.nd rfl (Or.inl rfl) (pe_ix ix_tup (pv 2) pe_int (fun _ _=>rfl)))
   (pss_cons (ps_if (pt_cmpR op_eq (pv 4) pe_str (nomark _)) (pss_one (ps_ret pe_int)) pss_nil)
   (pss_cons (ps_if (pw_and (pt_cmpR op_eq (pv 4) pe_str (nomark _)) (pw_and1 (pt_val (pe_call GL hr (by rfl) DL.at_ DL.fn.kp DL.bn .nil pass0 (pa_cons (pe_ix ix_tup (pv 0) (pv 1) (fun _ _=>rfl)) (pa_cons (pe_ix ix_tup (pv 2) pe_int (fun _ _=>rfl)) pa_nil)))))).pt
    (pss_one (ps_ret (pe_ix ix_tup (pv 3) (pe_glob (v:=.int 0) (by rfl) mL ⟨_,rfl⟩) (fun _ _=>rfl)))) pss_nil)
   (pss_one (ps_ret (pe_ix ix_tup (pv 3) (pe_ix (ix_dictM rfl PL.at_ PL.keys) (pe_glob (v:=.ref aD) (by rfl) mP rfl) (pv 4) (fun _ _=>rfl)) (fun _ _=>rfl)))))),?_⟩
  have go:∀ i,price es d pr st=i->Q2 (.int i) H:=fun i e=>hq _ _ (Rst.same (Same.refl H) (by rw [<-e];exact q))
  obtain ⟨t1,P1⟩:=PL.p1
  obtain ⟨t2,P2⟩:=PL.p2
  obtain ⟨t3,P3⟩:=PL.p3
  obtain ⟨t4,P4⟩:=PL.p4
  obtain ⟨t5,P5⟩:=PL.p5
  obtain ⟨t6,P6⟩:=PL.p6
  cases st with
  | keep=>exact ⟨_,rfl,t,_,_,_,rfl,rfl,ht,rfl,_,rfl,rfl,_,rfl,iteY rfl (go _ rfl)⟩
  | turn z=>
   have hd:d < es.length:=hto
   refine ⟨_,rfl,t,_,_,_,rfl,rfl,ht,rfl,?_⟩
   refine ⟨_,rfl,rfl,_,rfl,iteK (by decide +kernel) ?_⟩
   refine ⟨_,rfl,rfl,_,rfl,iteY rfl ?_⟩
   refine ⟨_,rfl,_,rfl,p,_,_,_,rfl,rfl,hp,at_w hd,_,rfl,t,_,_,_,rfl,rfl,ht,rfl,_,_,rfl,(hg _ (gt_mem hd)).small,Good.small hok,_,rfl,?_⟩
   cases hb:alikeB (gt es d).cps.toList z.cps.toList with
   | true=>exact iteT ⟨_,rfl,r,_,_,_,rfl,rfl,hpr,at_p (i:=0) (by omega),go _ (by show (if alikeB (gt es d).cps.toList z.cps.toList=true then _ else _)=_;rw [hb];rfl)⟩
   | false=>exact iteF ⟨_,rfl,_,rfl,_,.int 1,_,rfl,rfl,P1,⟨_,rfl⟩,r,_,_,_,rfl,rfl,hpr,at_p (i:=1) (by omega),go _ (by show (if alikeB (gt es d).cps.toList z.cps.toList=true then _ else _)=_;rw [hb];rfl)⟩
  | lose=>
   refine ⟨_,rfl,t,_,_,_,rfl,rfl,ht,rfl,_,rfl,rfl,_,rfl,iteK (by decide +kernel) ⟨_,rfl,rfl,_,rfl,iteK (by decide +kernel) (iteF ?_)⟩⟩
   exact ⟨_,rfl,_,rfl,_,.int 2,_,rfl,rfl,P2,⟨_,rfl⟩,r,_,_,_,rfl,rfl,hpr,at_p (i:=2) (by omega),go _ rfl⟩
  | add z=>
   refine ⟨_,rfl,t,_,_,_,rfl,rfl,ht,rfl,_,rfl,rfl,_,rfl,iteK (by decide +kernel) ⟨_,rfl,rfl,_,rfl,iteK (by decide +kernel) (iteF ?_)⟩⟩
   exact ⟨_,rfl,_,rfl,_,.int 3,_,rfl,rfl,P3,⟨_,rfl⟩,r,_,_,_,rfl,rfl,hpr,at_p (i:=3) (by omega),go _ rfl⟩
  | twice=>
   refine ⟨_,rfl,t,_,_,_,rfl,rfl,ht,rfl,_,rfl,rfl,_,rfl,iteK (by decide +kernel) ⟨_,rfl,rfl,_,rfl,iteK (by decide +kernel) (iteF ?_)⟩⟩
   exact ⟨_,rfl,_,rfl,_,.int 4,_,rfl,rfl,P4,⟨_,rfl⟩,r,_,_,_,rfl,rfl,hpr,at_p (i:=4) (by omega),go _ rfl⟩
  | swap=>
   refine ⟨_,rfl,t,_,_,_,rfl,rfl,ht,rfl,_,rfl,rfl,_,rfl,iteK (by decide +kernel) ⟨_,rfl,rfl,_,rfl,iteK (by decide +kernel) (iteF ?_)⟩⟩
   exact ⟨_,rfl,_,rfl,_,.int 5,_,rfl,rfl,P5,⟨_,rfl⟩,r,_,_,_,rfl,rfl,hpr,at_p (i:=5) (by omega),go _ rfl⟩
  | skip m=>
   refine ⟨_,rfl,t,_,_,_,rfl,rfl,ht,rfl,_,rfl,rfl,_,rfl,iteK (by decide +kernel) ⟨_,rfl,rfl,_,rfl,iteK (by decide +kernel) (iteF ?_)⟩⟩
   exact ⟨_,rfl,_,rfl,_,.int 6,_,rfl,rfl,P6,⟨_,rfl⟩,r,_,_,_,rfl,rfl,hpr,at_p (i:=6) (by omega),go _ rfl⟩
theorem row_none (n:Nat):rowV n (fun _=>none)=List.replicate (n+1) .non:=by
 unfold rowV
 rw [show (fun j:Nat=>ov ((fun _=>none:Nat->Option Int) j))=fun _=>V.non from rfl,List.map_const',List.length_range]
def spEmp (K:PySem.W.Frag):Sp:=fun vs H Q _=>∃ (p q:Addr) (es cs:List V),vs=[.ref p,.ref q]/\SqT K H p es/\SqT K H q cs/\es.length<=1000/\cs.length<=1000 ∧
 ∀ (H':Hp) (l:Addr) (rs:List Addr),Same H H'->H l=none->(∀ r ∈ rs,H r=none)->TabAt H' l rs es.length cs.length (fun _ _=>none)->Q (.ref l) H'
theorem scEmp:FnScope ["elder","copy"] ["elder","copy"] (defScope sEmp):=⟨rfl,rfl,rfl,by decide +kernel,rfl,by decide +kernel,by decide +kernel⟩
theorem nd_ic:(["i","copy"]:List Str).Nodup:=by decide +kernel
theorem ok_emp {f:Addr} {fd:FuncData} (F:Fun K "empty_table" "empty_table" sEmp f fd) (mlen:mg "len" = none) (mrange:mg "range" = none):FnOk P w K mg base CX0 1 f fd ["elder","copy"] (spEmp K):=by
 refine F.ok scEmp (fun vs H Q E h=>?_) (fun cdv A outer s H vs Q E hr h=>?_)
 ·obtain ⟨p,q,es,cs,rfl,_⟩:=h
  rfl
 ·obtain ⟨p,q0,es,cs,rfl,hp,hc,hel,hcl,q⟩:=h
  refine ⟨_,pss_one (ps_ret (pe_comp (Nc:=["i","copy"]) (mp:=[none,some 1]) rfl (CompOk.of (by rfl)) (pi_range1 (by rfl) mrange (pa_cons (pe_op op_add (pe_callB call_len_seq (by rfl) mlen PySem.boot_len (pa_cons (pv 0) pa_nil)) pe_int) pa_nil))
   (fun cl C s H fp=>⟨pg_name (i:=0) nd_ic rfl (Or.inl rfl),pts_nil,pe_op op_mulL (pe_lst (pa_cons pe_non pa_nil)) (pe_op op_add (pe_callB (call_len_seqK (K:=K) rfl) (by rfl) mlen PySem.boot_len (pa_cons (pv 1) pa_nil)) pe_int)⟩))),?_⟩
  refine ⟨_,rfl,p,_,rfl,.inr hp,_,_,rfl,rfl,_,rfl,by omega,by omega,?_⟩
  have en:((es.length:Int)+1).toNat=es.length+1:=by omega
  rw [en]
  refine comp_grow (as:=List.range (es.length+1)) (v:=fun k=>.int (0+((k:Nat):Int))) (fun i acc H'=>∃ rs:List Addr,acc=rs.map V.ref/\rs.length=i/\(∀ r ∈ rs,H' r=some (.lst (rowV cs.length fun _=>none)))/\rs.Nodup/\(∀ r ∈ rs,H r=none)/\Same H H')
   (fun i acc H' _ _=>src_range 0 (es.length+1) H') (by rw [List.length_range];exact few (by omega)) ⟨[],rfl,rfl,(fun _ z=>nomatch z),.nil,(fun _ z=>nomatch z),Same.refl _⟩ (fun i acc H' ⟨rs,e,hl,_⟩=>by rw [e,List.length_map,hl]) ?_ ?_
  ·rintro i k acc H' hk ⟨rs,rfl,hl,hrow,hnd,hfr,S⟩ kk hkk
   refine ⟨few (by show 1<=_;omega),fun t ht=>?_⟩
   have T1:=same_upd (o:=.lst [.non]) ht
   refine ⟨_,rfl,q0,_,rfl,.inr (sameT (S.trans T1) hc),_,_,rfl,rfl,t,.non,cs.length+1,rfl,(by congr 1),upd_same,by omega,fun r hr0=>?_⟩
   have T2:=same_upd (o:=.lst (List.replicate (cs.length+1) .non)) hr0
   have hr1:H' r=none:=T1.free hr0
   refine hkk _ _ ⟨rs++[r],by rw [List.map_append];rfl,by rw [List.length_append,hl];rfl,?_,?_,?_,(S.trans T1).trans T2⟩
   ·intro y hy
    rcases List.mem_append.mp hy with hy | hy
    ·exact T2 _ _ (T1 _ _ (hrow y hy))
    ·rw [List.mem_singleton.mp hy,upd_same,row_none]
   ·refine List.nodup_append.mpr ⟨hnd,(List.pairwise_singleton _ _),fun a ha b hb=>?_⟩
    rw [List.mem_singleton.mp hb]
    intro e
    rw [e] at ha
    rw [hrow r ha] at hr1
    cases hr1
   ·intro y hy
    rcases List.mem_append.mp hy with hy | hy
    ·exact hfr y hy
    ·rw [List.mem_singleton.mp hy];exact S.free hr1
  ·rintro acc H' ⟨rs,rfl,hl,hrow,hnd,hfr,S⟩ D hD
   rw [List.length_range] at hl
   have SD:=same_upd (o:=.lst (rs.map V.ref)) hD
   refine q _ D rs (S.trans SD) (S.free hD) hfr ⟨upd_same,hl,fun i r e=>SD _ _ (hrow r (List.mem_of_getElem? e)),hnd,fun z=>?_⟩
   rw [hrow D z] at hD
   cases hD
def spTld (K:PySem.W.Frag):Sp:=fun vs H Q _=>∃ (l:Addr) (rs:List Addr) (m n:Nat) (T:Tb),vs=[.ref l]/\TabAt H l rs m n T/\m<=1000 ∧
 ∀ (H':Hp) (p:Addr) (ps:List Addr),Same H H'->H' p=some (.tup (ps.map V.ref))->ps.length=m+1->(∀ i q,ps[i]?=some q->H' q=some (.tup (rowV n (T i))))->Q (.ref p) H'
theorem scTld:FnScope ["table"] ["table"] (defScope sTld):=⟨rfl,rfl,rfl,by decide +kernel,rfl,by decide +kernel,by decide +kernel⟩
theorem nd_row:(["row"]:List Str).Nodup:=by decide +kernel
theorem call_tuple_ofK {X:Cx} {K:PySem.W.Frag} (hK:X.K=K):CallR X (.type "tuple") (fun xs H Q=>∃ p ys,xs=[.ref p]/\((SqL K H p ys/\∀ l,H l=none->Q (.ref l) (upd H l (.tup ys)))\/(SqT K H p ys/\Q (.ref p) H))):=by subst hK;exact call_tuple_of
theorem ok_tld {f:Addr} {fd:FuncData} (F:Fun K "table_told" "table_told" sTld f fd) (mtuple:mg "tuple" = none):FnOk P w K mg base CX0 1 f fd ["table"] (spTld K):=by
 refine F.ok scTld (fun vs H Q E h=>?_) (fun cdv A outer s H vs Q E hr h=>?_)
 ·obtain ⟨l,rs,m,n,T,rfl,_⟩:=h
  rfl
 ·obtain ⟨l,rs,m,n,T,rfl,hT,hm,q⟩:=h
  refine ⟨_,pss_one (ps_ret (pe_callTy call_tuple_of (by rfl) mtuple boot_tuple (pa_cons (pe_comp (Nc:=["row"]) (mp:=[none]) rfl (CompOk.of (by rfl)) (pi_list (pv 0))
   (fun cl C s H fp=>⟨pg_name (i:=0) nd_row rfl (Or.inl rfl),pts_nil,pe_callTy (call_tuple_ofK (K:=K) rfl) (by rfl) mtuple boot_tuple (pa_cons (pv 0) pa_nil)⟩)) pa_nil))),?_⟩
  refine ⟨_,rfl,l,rfl,⟨_,SqL.of hT.top⟩,comp_grow (as:=rs) (v:=V.ref) (fun i acc H'=>∃ ps:List Addr,acc=ps.map V.ref/\ps.length=i/\(∀ j q,ps[j]?=some q->H' q=some (.tup (rowV n (T j))))/\Same H H')
   (fun i acc H' _ ⟨_,_,_,_,S⟩=>src_list (SqL.of (S _ _ hT.top))) (by rw [hT.len];exact few (by omega)) ⟨[],rfl,rfl,(fun j q z=>by simp at z),Same.refl _⟩ (fun i acc H' ⟨ps,e,hl,_⟩=>by rw [e,List.length_map,hl]) ?_ ?_⟩
  ·rintro i r acc H' hr ⟨ps,rfl,hl,hrow,S⟩ kk hkk
   refine ⟨_,rfl,r,_,rfl,.inl ⟨SqL.of (S _ _ (hT.row i r hr)),fun t ht=>?_⟩⟩
   have T1:=same_upd (o:=.tup (rowV n (T i))) ht
   refine hkk _ _ ⟨ps++[t],by rw [List.map_append];rfl,by rw [List.length_append,hl];rfl,fun j y hy=>?_,S.trans T1⟩
   by_cases hj:j < ps.length
   ·rw [List.getElem?_append_left hj] at hy
    exact T1 _ _ (hrow j y hy)
   ·rw [List.getElem?_append_right (by omega)] at hy
    have hj0:j - ps.length=0:=by
     have:=(List.getElem?_eq_some_iff.mp hy).1
     simp at this
     omega
    rw [hj0] at hy
    simp at hy
    have:j=i:=by omega
    rw [<-hy,upd_same,this]
  ·rintro acc H' ⟨ps,rfl,hl,hrow,S⟩ D hD
   have SD:=same_upd (o:=.lst (ps.map V.ref)) hD
   refine ⟨D,_,rfl,.inl ⟨SqL.of upd_same,fun t ht=>?_⟩⟩
   have St:=same_upd (o:=.tup (ps.map V.ref)) ht
   exact q _ t ps ((S.trans SD).trans St) upd_same (by rw [hl,hT.len]) (fun i y e=>St _ _ (SD _ _ (hrow i y e)))
def spPtab (K:PySem.W.Frag):Sp:=fun vs H Q _=>∃ (p q r:Addr) (es cs:List Str) (pr:List Int),vs=[.ref p,.ref q,.ref r]/\SqT K H p (es.map V.str)/\SqT K H q (cs.map V.str)/\SqT K H r (pr.map V.int)/\(∀ z ∈ es,Good z)/\(∀ z ∈ cs,Good z)/\es.length<=1000/\cs.length<=1000/\pr.length=7 ∧
 ∀ (H':Hp) (t:Addr) (ps:List Addr) (F:Nat->Nat->Int),Same H H'->H' t=some (.tup (ps.map V.ref))->ps.length=es.length+1->(∀ i y,ps[i]?=some y->H' y=some (.tup ((List.range (cs.length+1)).map fun j=>V.int (F i j))))->Least (fun i st=>price es i pr st) es.length cs.length (ways es cs) F->Q (.ref t) H'
theorem scPtab:FnScope ["elder","copy","prices","table","i","j","step","done","written","price"] ["elder","copy","prices"] (defScope sPtab):=⟨rfl,rfl,rfl,by decide +kernel,rfl,by decide +kernel,by decide +kernel⟩
theorem ref_row {as:List Addr} {n:Nat} {f:Nat->Option Int}:as.map V.ref ≠ rowV n f:=by
 intro e
 have h:=congrArg (fun l:List V=>l[0]?) e
 simp only [rowV_at f (Nat.zero_le n),List.getElem?_map] at h
 cases h0:as[0]? with
 | none=>rw [h0] at h;cases h
 | some a=>
  rw [h0] at h
  injection h with h
  cases hf:f 0 with
  | none=>rw [hf] at h;cases h
  | some u=>rw [hf] at h;cases h
theorem ok_ptab {f gE gT gW gP:Addr} {fd dE dT dW dP:FuncData} (F:Fun K "price_table" "price_table" sPtab f fd) (DE:Dfn K mg "empty_table" sEmp gE dE ["elder","copy"]) (DT:Dfn K mg "table_told" sTld gT dT ["table"])
  (DW:Dfn K mg "knot_ways" sWays gW dW ["elder","copy","i","j"]) (GW:FnOk P w K mg base CX0 2 gW dW ["elder","copy","i","j"] (spWays K)) (DP:Dfn K mg "step_price" sPrice gP dP ["elder","done","step","prices"]) (GP:FnOk P w K mg base CX0 2 gP dP ["elder","done","step","prices"] (spPrice K))
  (mlen:mg "len" = none) (mrange:mg "range" = none) (mtuple:mg "tuple" = none):FnOk P w K mg base CX0 3 f fd ["elder","copy","prices"] (spPtab K):=by
 have GE:FnOk P w K mg base CX0 2 gE dE ["elder","copy"] (spEmp K):=(ok_emp DE.fn mlen mrange).mono (by decide)
 have GT:FnOk P w K mg base CX0 2 gT dT ["table"] (spTld K):=(ok_tld DT.fn mtuple).mono (by decide)
 refine F.ok scPtab (fun vs H Q E h=>?_) (fun cdv A outer s H vs Q E hr h=>?_)
 ·obtain ⟨p,q,r,es,cs,pr,rfl,_⟩:=h
  rfl
 ·obtain ⟨p,q0,r0,es,cs,pr,rfl,hp,hc,hpr,hge,hgc,hel,hcl,h7,q⟩:=h
  refine ⟨_,pss_cons (ps_set (i:=3) scPtab.nd rfl (Or.inl rfl) (pe_call GE hr (by rfl) DE.at_ DE.fn.kp DE.bn .nil pass0 (pa_cons (pv 0) (pa_cons (pv 1) pa_nil))))
   (pss_cons (ps_asg pe_int (pg_sub (pe_ix ix_list (pv 3) pe_int (fun _ _=>rfl)) pe_int set_list))
   (pss_cons (ps_for PassesOwn.never rfl (pi_range1 (by rfl) mrange (pa_cons (pe_op op_add (pe_callB call_len_seq (by rfl) mlen PySem.boot_len (pa_cons (pv 0) pa_nil)) pe_int) pa_nil)) (pg_name (i:=4) scPtab.nd rfl (Or.inl rfl))
    (pss_one (ps_for PassesOwn.never rfl (pi_range1 (by rfl) mrange (pa_cons (pe_op op_add (pe_callB call_len_seq (by rfl) mlen PySem.boot_len (pa_cons (pv 1) pa_nil)) pe_int) pa_nil)) (pg_name (i:=5) scPtab.nd rfl (Or.inl rfl))
     (pss_one (ps_for PassesOwn.never rfl (pi_list (pe_call GW hr (by rfl) DW.at_ DW.fn.kp DW.bn .nil pass0 (pa_cons (pv 0) (pa_cons (pv 1) (pa_cons (pv 4) (pa_cons (pv 5) pa_nil)))))) (pg_tup (n:=3) rfl (pgs_cons (pg_name (i:=6) scPtab.nd rfl (Or.inl rfl)) (pgs_cons (pg_name (i:=7) scPtab.nd rfl (Or.inl rfl)) (pgs_cons (pg_name (i:=8) scPtab.nd rfl (Or.inl rfl)) pgs_nil))))
      (pss_cons (ps_set (i:=9) scPtab.nd rfl (Or.inl rfl) (pe_op op_add (pe_ix ix_list (pe_ix ix_list (pv 3) (pv 4) (fun _ _=>rfl)) (pv 5) (fun _ _=>rfl)) (pe_call GP hr (by rfl) DP.at_ DP.fn.kp DP.bn .nil pass0 (pa_cons (pv 0) (pa_cons (pv 4) (pa_cons (pv 6) (pa_cons (pv 2) pa_nil)))))))
      (pss_one (ps_if (pw_or (pt_cmpR op_isN (pe_ix ix_list (pe_ix ix_list (pv 3) (pv 7) (fun _ _=>rfl)) (pv 8) (fun _ _=>rfl)) pe_non (nomark _)) (pw_or1 (pt_cmpR op_lt (pv 9) (pe_ix ix_list (pe_ix ix_list (pv 3) (pv 7) (fun _ _=>rfl)) (pv 8) (fun _ _=>rfl)) (nomark _)))).pt
       (pss_one (ps_asg (pv 9) (pg_sub (pe_ix ix_list (pv 3) (pv 7) (fun _ _=>rfl)) (pv 8) set_list))) pss_nil))))))))
   (pss_one (ps_ret (pe_call GT hr (by rfl) DT.at_ DT.fn.kp DT.bn .nil pass0 (pa_cons (pv 3) pa_nil)))))),?_⟩
  have hle:(es.map V.str).length=es.length:=List.length_map ..
  have hlc:(cs.map V.str).length=cs.length:=List.length_map ..
  refine ⟨_,rfl,_,rfl,p,q0,_,_,rfl,hp,hc,by omega,by omega,fun H0 l rs S0 hlf hrf hT0=>?_⟩
  rw [hle,hlc] at hT0
  obtain ⟨ra,era,ara,hra⟩:=hT0.line (Nat.zero_le _)
  refine ⟨_,rfl,l,_,_,_,rfl,rfl,SqL.of hT0.top,ara,ra,_,_,0,rfl,rfl,hra,ixN_nat (by rw [rowV_len];exact Nat.succ_pos _),?_⟩
  have hT1:=hT0.put (j:=0) 0 era (Nat.zero_le _)
  have S1:Same H (upd H0 ra (.lst ((rowV cs.length ((fun _ _=>none:Tb) 0)).set 0 (.int 0)))):=same_to S0 (hrf ra (List.mem_of_getElem? era))
  generalize upd H0 ra (.lst ((rowV cs.length ((fun _ _=>none:Tb) 0)).set 0 (.int 0)))=H1 at hT1 S1
  refine ⟨_,rfl,p,_,rfl,.inr (sameT S1 hp),_,_,rfl,rfl,_,rfl,by omega,by omega,?_⟩
  rw [hle,show ((es.length:Int)+1).toNat=es.length+1 by omega]
  refine for_range (fun i σ H2=>∃ (T:Tb) (v4 v5 v6 v7 v8 v9:Option V),σ=[some (.ref p),some (.ref q0),some (.ref r0),some (.ref l),v4,v5,v6,v7,v8,v9]/\TabAt H2 l rs es.length cs.length T/\TabI (fun i st=>price es i pr st) (Gone es.length cs.length (ways es cs) i 0 []) T/\Same H H2)
   ⟨_,none,none,none,none,none,none,rfl,hT1,TabI.start,S1⟩ ?_ ?_
  ·rintro i σ H2 hi ⟨T2,v4,v5,v6,v7,v8,v9,rfl,hT2,hI2,S2⟩
   have ei:(0:Int)+((i:Nat):Int)=((i:Nat):Int):=by omega
   rw [ei]
   refine ⟨_,rfl,q0,_,rfl,.inr (sameT S2 hc),_,_,rfl,rfl,_,rfl,by omega,by omega,?_⟩
   rw [hlc,show ((cs.length:Int)+1).toNat=cs.length+1 by omega]
   refine for_range (fun j σ H3=>∃ (T:Tb) (v5 v6 v7 v8 v9:Option V),σ=[some (.ref p),some (.ref q0),some (.ref r0),some (.ref l),some (.int ((i:Nat):Int)),v5,v6,v7,v8,v9]/\TabAt H3 l rs es.length cs.length T/\TabI (fun i st=>price es i pr st) (Gone es.length cs.length (ways es cs) i j []) T/\Same H H3)
    ⟨T2,v5,v6,v7,v8,v9,rfl,hT2,hI2,S2⟩ ?_ ?_
   ·rintro j σ H3 hj ⟨T3,v5,v6,v7,v8,v9,rfl,hT3,hI3,S3⟩
    have ej:(0:Int)+((j:Nat):Int)=((j:Nat):Int):=by omega
    rw [ej]
    obtain ⟨t3,ht3⟩:=hI3.here (ways_come es cs) (by omega) (by omega)
    refine ⟨_,rfl,_,rfl,_,rfl,_,rfl,p,q0,es,cs,i,j,rfl,sameT S3 hp,sameT S3 hc,by omega,by omega,hel,fun H4 lw as S4 hlw hW=>?_⟩
    have hok:=ways_ok (i:=i) (j:=j) (es:=es) hgc hel
    have htn:∀ x ∈ ways es cs i j,turnOk es i x.1:=fun x hx=>by
     cases hx1:x.1 with
     | turn z=>exact ways_turn hx hx1
     | _=>trivial
    have hfw:=ways_fwd es cs i j (by omega) (by omega)
    generalize hws:ways es cs i j=ws at hW hok htn hfw
    refine ⟨lw,rfl,⟨_,SqL.of hlw⟩,for_list (xs:=as.map V.ref) (fun k σ H5=>∃ (T:Tb) (v6 v7 v8 v9:Option V),σ=[some (.ref p),some (.ref q0),some (.ref r0),some (.ref l),some (.int ((i:Nat):Int)),some (.int ((j:Nat):Int)),v6,v7,v8,v9]/\TabAt H5 l rs es.length cs.length T/\TabI (fun i st=>price es i pr st) (Gone es.length cs.length (ways es cs) i j (ws.take k)) T/\T i j=some t3/\H5 lw=some (.lst (as.map V.ref))/\WaysAt H5 as ws/\Same H H5)
     ⟨T3,v6,v7,v8,v9,rfl,hT3.mono S4,by rw [List.take_zero];exact hI3,ht3,hlw,hW,S3.trans S4⟩ (fun k σ H5 _ ⟨_,_,_,_,_,_,_,_,_,h,_⟩=>SqL.of h) ?_ ?_⟩
    ·rintro k v σ H5 hk ⟨T5,v6,v7,v8,v9,rfl,hT5,hI5,ht5,hlw5,hW5,S5⟩
     have hkl:k < as.length:=by have:=(List.getElem?_eq_some_iff.mp hk).1;rwa [List.length_map] at this
     have hkw:k < ws.length:=by rw [<-hW5.len];exact hkl
     rw [List.getElem?_map,List.getElem?_eq_getElem hkl] at hk
     have hv:V.ref as[k]=v:=Option.some.inj hk
     subst hv
     obtain ⟨ts,ha,hts⟩:=hW5.item k as[k] ws[k] (List.getElem?_eq_getElem hkl) (List.getElem?_eq_getElem hkw)
     have hxm:ws[k] ∈ ws:=List.getElem_mem hkw
     have hxm':ws[k] ∈ ways es cs i j:=by rw [hws];exact hxm
     have hx:=hfw _ hxm
     have hxo:=hok _ hxm
     have hxt:=htn _ hxm
     have htake:ws.take k++[ws[k]]=ws.take (k+1):=(List.take_succ_eq_append_getElem hkw).symm
     obtain ⟨hI6,ht6⟩:=hI5.step (ways_fwd es cs) (by omega) (by omega) hxm' ht5
     rw [htake] at hI6
     generalize ws[k]=x at *
     obtain ⟨st,d,wr⟩:=x
     obtain ⟨ri,eri,ari,hri⟩:=hT5.line (i:=i) (by omega)
     obtain ⟨rd,erd,ard,hrd⟩:=hT5.line (i:=d) hx.1
     refine ⟨_,_,rfl,SqT.of ha,rfl,_,_,rfl,_,_,rfl,_,_,rfl,rfl,?_⟩
     refine ⟨_,rfl,_,rfl,l,_,_,_,rfl,rfl,SqL.of hT5.top,ari,_,rfl,ri,_,_,_,rfl,rfl,SqL.of hri,rowV_atI _ (by omega),?_⟩
     rw [ht5]
     refine ⟨_,rfl,_,rfl,_,rfl,_,rfl,p,ts,r0,es,i,st,pr,rfl,sameT S5 hp,hge,SqT.of hts,hxo,hxt,sameT S5 hpr,h7,_,_,rfl,rfl,?_⟩
     refine ⟨_,rfl,_,rfl,l,_,_,_,rfl,rfl,SqL.of hT5.top,ard,_,rfl,rd,_,_,_,rfl,rfl,SqL.of hrd,rowV_atI _ hx.2.1,rfl,_,rfl,?_⟩
     have store:T5.rel (fun i st=>price es i pr st) i j (st,d,wr)=T5.put d wr (t3+price es i pr st)->TabAt (upd H5 rd (.lst ((rowV cs.length (T5 d)).set wr (.int (t3+price es i pr st))))) l rs es.length cs.length (T5.rel (fun i st=>price es i pr st) i j (st,d,wr))/\upd H5 rd (.lst ((rowV cs.length (T5 d)).set wr (.int (t3+price es i pr st)))) lw=some (.lst (as.map V.ref))/\WaysAt (upd H5 rd (.lst ((rowV cs.length (T5 d)).set wr (.int (t3+price es i pr st))))) as ws/\Same H (upd H5 rd (.lst ((rowV cs.length (T5 d)).set wr (.int (t3+price es i pr st))))):=by
      intro e
      rw [e]
      refine ⟨hT5.put _ erd hx.2.1,?_,hW5.set hrd,same_to S5 (hrf rd (List.mem_of_getElem? erd))⟩
      rw [upd_ne (fun z=>by
       rw [z,hrd] at hlw5
       injection hlw5 with h1
       injection h1 with h2
       exact ref_row h2.symm)]
      exact hlw5
     cases hu:T5 d wr with
     | none=>
      have er:T5.rel (fun i st=>price es i pr st) i j (st,d,wr)=T5.put d wr (t3+price es i pr st):=by
       unfold Tb.rel
       simp only [ht5,hu]
      obtain ⟨c1,c2,c3,c4⟩:=store er
      refine iteY rfl (iteT ?_)
      refine ⟨_,rfl,_,rfl,_,rfl,l,_,_,_,rfl,rfl,SqL.of hT5.top,ard,_,rfl,rd,_,_,wr,rfl,rfl,hrd,ixN_nat (by rw [rowV_len];have:=hx.2.1;omega),?_⟩
      exact ⟨_,_,_,_,_,rfl,c1,hI6,ht6,c2,c3,c4⟩
     | some u=>
      refine iteK (fun z=>by cases z) ?_
      refine ⟨_,rfl,_,rfl,_,rfl,l,_,_,_,rfl,rfl,SqL.of hT5.top,ard,_,rfl,rd,_,_,_,rfl,rfl,SqL.of hrd,rowV_atI _ hx.2.1,?_⟩
      rw [hu]
      refine ⟨_,_,rfl,rfl,_,rfl,ite2 (fun hlt=>?_) (fun hlt=>?_)⟩
      ·have hlt:=of_decide_eq_true hlt
       have er:T5.rel (fun i st=>price es i pr st) i j (st,d,wr)=T5.put d wr (t3+price es i pr st):=by
        unfold Tb.rel
        simp only [ht5,hu]
        rw [if_pos hlt]
       obtain ⟨c1,c2,c3,c4⟩:=store er
       refine ⟨_,rfl,_,rfl,_,rfl,l,_,_,_,rfl,rfl,SqL.of hT5.top,ard,_,rfl,rd,_,_,wr,rfl,rfl,hrd,ixN_nat (by rw [rowV_len];have:=hx.2.1;omega),?_⟩
       exact ⟨_,_,_,_,_,rfl,c1,hI6,ht6,c2,c3,c4⟩
      ·have hlt:¬ (t3+price es i pr st < u):=fun z=>hlt (decide_eq_true z)
       have er:T5.rel (fun i st=>price es i pr st) i j (st,d,wr)=T5:=by
        unfold Tb.rel
        simp only [ht5,hu]
        rw [if_neg hlt]
       rw [er] at hI6
       exact ⟨T5,_,_,_,_,rfl,hT5,hI6,ht5,hlw5,hW5,S5⟩
    ·rintro σ H5 ⟨T5,v6,v7,v8,v9,rfl,hT5,hI5,ht5,hlw5,hW5,S5⟩
     rw [List.length_map,hW5.len,List.take_length,<-hws] at hI5
     exact ⟨T5,_,_,_,_,_,rfl,hT5,hI5.congr (Gone.next (by omega) (by omega)),S5⟩
   ·rintro σ H3 ⟨T3,v5,v6,v7,v8,v9,rfl,hT3,hI3,S3⟩
    exact ⟨T3,_,_,_,_,_,_,rfl,hT3,hI3.congr Gone.row,S3⟩
  ·rintro σ H2 ⟨T2,v4,v5,v6,v7,v8,v9,rfl,hT2,hI2,S2⟩
   obtain ⟨hall,hL⟩:=hI2.least (ways_fwd es cs) (ways_come es cs)
   refine ⟨_,rfl,l,rs,es.length,cs.length,T2,rfl,hT2,hel,fun H9 t ps S9 ht hpl hrow=>?_⟩
   refine q H9 t ps (fun i j=>(T2 i j).getD 0) (S2.trans S9) ht hpl (fun i y e=>?_) hL
   rw [hrow i y e]
   congr 2
   unfold rowV
   apply List.map_congr_left
   intro j hj
   have:=List.mem_range.mp hj
   have hil:i < ps.length:=(List.getElem?_eq_some_iff.mp e).1
   obtain ⟨v,hv⟩:=hall i j (by omega) (by omega)
   rw [hv]
   rfl
theorem ways_few {es cs:List Str} {i j:Nat} (h:es.length<=1000):(ways es cs i j).length<=1100:=by
 have l6:(w6 es i j).length<=1000:=by
  unfold w6 skips
  rw [List.length_map]
  split
  ·exact Nat.zero_le _
  ·rw [List.length_map]
   exact Nat.le_trans (List.length_filter_le _ _) (by rw [List.length_range];omega)
 have l1:(w1 es cs i j).length<=1:=by unfold w1;split <;> simp
 have l2:(w2 es i j).length<=1:=by unfold w2;split <;> simp
 have l3:(w3 cs i j).length<=1:=by unfold w3;split <;> simp
 have l4:(w4 cs i j).length<=1:=by unfold w4;split <;> simp
 have l5:(w5 es cs i j).length<=1:=by unfold w5;split <;> simp
 unfold ways
 simp only [List.length_append]
 omega
theorem down_facts:∀ m,m < 101->Builtin.Range.small ((m:Nat):Int) (-1) (-1)=true/\Builtin.Range.rangeSize ((m:Nat):Int) (-1) (-1)=((m+1:Nat):Int):=by decide +kernel
def spRtab (K:PySem.W.Frag):Sp:=fun vs H Q _=>∃ (p q r:Addr) (es cs:List Str) (pr:List Int),vs=[.ref p,.ref q,.ref r]/\SqT K H p (es.map V.str)/\SqT K H q (cs.map V.str)/\SqT K H r (pr.map V.int)/\(∀ z ∈ es,Good z)/\(∀ z ∈ cs,Good z)/\es.length<=100/\cs.length<=100/\pr.length=7 ∧
 ∀ (H':Hp) (t:Addr) (ps:List Addr) (F:Nat->Nat->Int),Same H H'->H' t=some (.tup (ps.map V.ref))->ps.length=es.length+1->(∀ i y,ps[i]?=some y->H' y=some (.tup ((List.range (cs.length+1)).map fun j=>V.int (F i j))))->Rest (fun i st=>price es i pr st) es.length cs.length (ways es cs) F->Q (.ref t) H'
theorem scRtab:FnScope ["elder","copy","prices","table","i","j","ways","rests"] ["elder","copy","prices"] (defScope sRtab):=⟨rfl,rfl,rfl,by decide +kernel,rfl,by decide +kernel,by decide +kernel⟩
theorem nd_sdw:(["step","done","written","elder","i","prices","table"]:List Str).Nodup:=by decide +kernel
theorem pg_tupK {X:Cx} {es:List Expr} {k:Nat} {t:TGs} {n:Nat} {pos:Pos} (hK:X.K=K) (hc:X.calm=true) (h:PGs X es t)
  (hn:(assignEach es X.env).length=n:=by rfl) (hst:(assignEach es X.env).findIdx? (·.1)=none:=by rfl):PG X (.Tuple es k pos) (gTup K n t):=by
 subst hK
 exact pg_tup hc h hn hst
theorem zip_fst {α β:Type} (f:α->V):∀ {xs:List α} {ys:List β},xs.length=ys.length->(xs.zip ys).map (fun x=>f x.1)=xs.map f
 | [],_,_=>by simp
 | x :: xs,[],h=>by simp at h
 | x :: xs,y :: ys,h=>by
  rw [List.zip_cons_cons,List.map_cons,List.map_cons,zip_fst f (by simpa using h)]
theorem zip_snd {α β γ:Type} (f:β->γ):∀ {xs:List α} {ys:List β},xs.length=ys.length->(xs.zip ys).map (fun x=>f x.2)=ys.map f
 | [],[],_=>by simp
 | [],y :: ys,h=>by simp at h
 | x :: xs,[],h=>by simp at h
 | x :: xs,y :: ys,h=>by
  rw [List.zip_cons_cons,List.map_cons,List.map_cons,zip_snd f (by simpa using h)]
theorem zip_ways {H:Hp} {as:List Addr} {ws:List Way} (h:WaysAt H as ws):∃ ta:Addr × Way->Addr,∀ x ∈ as.zip ws,x.2 ∈ ws/\H x.1=some (.tup (wayV (ta x) x.2))/\H (ta x)=some (.tup (stepV x.2.1)):=by
 classical
 refine ⟨fun x=>if h:∃ t,H x.1=some (.tup (wayV t x.2))/\H t=some (.tup (stepV x.2.1)) then h.choose else x.1,fun x hx=>?_⟩
 obtain ⟨k,hk⟩:=List.mem_iff_getElem?.mp hx
 obtain ⟨h1,h2⟩:=List.getElem?_zip_eq_some.mp hk
 have hh:=h.item k x.1 x.2 h1 h2
 dsimp only
 rw [dif_pos hh]
 exact ⟨List.mem_of_getElem? h2,hh.choose_spec⟩
theorem ok_rtab {f gE gT gW gP:Addr} {fd dE dT dW dP:FuncData} (F:Fun K "rest_table" "rest_table" sRtab f fd) (DE:Dfn K mg "empty_table" sEmp gE dE ["elder","copy"]) (DT:Dfn K mg "table_told" sTld gT dT ["table"])
  (DW:Dfn K mg "knot_ways" sWays gW dW ["elder","copy","i","j"]) (GW:FnOk P w K mg base CX0 2 gW dW ["elder","copy","i","j"] (spWays K)) (DP:Dfn K mg "step_price" sPrice gP dP ["elder","done","step","prices"]) (GP:FnOk P w K mg base CX0 2 gP dP ["elder","done","step","prices"] (spPrice K))
  (mlen:mg "len" = none) (mrange:mg "range" = none) (mtuple:mg "tuple" = none) (mmin:mg "min" = none):FnOk P w K mg base CX0 3 f fd ["elder","copy","prices"] (spRtab K):=by
 have GE:FnOk P w K mg base CX0 2 gE dE ["elder","copy"] (spEmp K):=(ok_emp DE.fn mlen mrange).mono (by decide)
 have GT:FnOk P w K mg base CX0 2 gT dT ["table"] (spTld K):=(ok_tld DT.fn mtuple).mono (by decide)
 refine F.ok scRtab (fun vs H Q E h=>?_) (fun cdv A outer s H vs Q E hr h=>?_)
 ·obtain ⟨p,q,r,es,cs,pr,rfl,_⟩:=h
  rfl
 ·obtain ⟨p,q0,r0,es,cs,pr,rfl,hp,hc,hpr,hge,hgc,hel,hcl,h7,q⟩:=h
  refine ⟨_,pss_cons (ps_set (i:=3) scRtab.nd rfl (Or.inr rfl) (pe_call GE hr (by rfl) DE.at_ DE.fn.kp DE.bn .nil pass0 (pa_cons (pv 0) (pa_cons (pv 1) pa_nil))))
   (pss_cons (ps_for PassesOwn.never rfl (pi_range3 (by rfl) mrange (pa_cons (pe_callB call_len_seq (by rfl) mlen PySem.boot_len (pa_cons (pv 0) pa_nil)) (pa_cons (pe_un un_neg pe_int) (pa_cons (pe_un un_neg pe_int) pa_nil)))) (pg_name (i:=4) scRtab.nd rfl (Or.inr rfl))
    (pss_one (ps_for PassesOwn.never rfl (pi_range3 (by rfl) mrange (pa_cons (pe_callB call_len_seq (by rfl) mlen PySem.boot_len (pa_cons (pv 1) pa_nil)) (pa_cons (pe_un un_neg pe_int) (pa_cons (pe_un un_neg pe_int) pa_nil)))) (pg_name (i:=5) scRtab.nd rfl (Or.inl rfl))
     (pss_cons (ps_set (i:=6) scRtab.nd rfl (Or.inl rfl) (pe_call GW hr (by rfl) DW.at_ DW.fn.kp DW.bn .nil pass0 (pa_cons (pv 0) (pa_cons (pv 1) (pa_cons (pv 4) (pa_cons (pv 5) pa_nil))))))
     (pss_cons (ps_setC (i:=7) (Nc:=["step","done","written","elder","i","prices","table"]) (mp:=[none,none,none,some 0,some 4,some 2,some 3]) rfl scRtab.nd rfl rfl (CompOk.of (by rfl)) (pi_list (pv 6))
      (fun cl C s H fp=>⟨pg_tupK (K:=K) (n:=3) rfl rfl (pgs_cons (pg_name (i:=0) nd_sdw rfl (Or.inl rfl)) (pgs_cons (pg_name (i:=1) nd_sdw rfl (Or.inl rfl)) (pgs_cons (pg_name (i:=2) nd_sdw rfl (Or.inl rfl)) pgs_nil))),pts_nil,pe_op op_add (pe_call GP hr (by rfl) DP.at_ DP.fn.kp DP.bn .nil pass0 (pa_cons (pv 3) (pa_cons (pv 4) (pa_cons (pv 0) (pa_cons (pv 5) pa_nil))))) (pe_ix (ix_listK (K:=K) rfl) (pe_ix (ix_listK (K:=K) rfl) (pv 6) (pv 1) (fun _ _=>rfl)) (pv 2) (fun _ _=>rfl))⟩))
     (pss_one (ps_asg (pe_minD rfl (by rfl) mmin (pv 7)) (pg_sub (pe_ix ix_list (pv 3) (pv 4) (fun _ _=>rfl)) (pv 5) set_list))))))))
   (pss_one (ps_ret (pe_call GT hr (by rfl) DT.at_ DT.fn.kp DT.bn .nil pass0 (pa_cons (pv 3) pa_nil))))),?_⟩
  have hle:(es.map V.str).length=es.length:=List.length_map ..
  have hlc:(cs.map V.str).length=cs.length:=List.length_map ..
  refine ⟨_,rfl,_,rfl,p,q0,_,_,rfl,hp,hc,by omega,by omega,fun H0 l rs S0 hlf hrf hT0=>?_⟩
  rw [hle,hlc] at hT0
  have dm:=down_facts es.length (by omega)
  have dn:=down_facts cs.length (by omega)
  refine ⟨_,rfl,p,_,rfl,.inr (sameT S0 hp),_,rfl,_,rfl,((es.length:Nat):Int),-1,-1,es.length+1,by rw [hle],by decide,by decide,dm.1,dm.2,?_⟩
  refine for_range3 (fun k σ H2=>∃ (T:Tb) (v4 v5 v6 v7:Option V),σ=[some (.ref p),some (.ref q0),some (.ref r0),some (.ref l),v4,v5,v6,v7]/\TabAt H2 l rs es.length cs.length T/\(∀ a b,a<=es.length->b<=cs.length->es.length < a+k->RestAt (fun i st=>price es i pr st) (ways es cs) T a b)/\Same H H2)
   ⟨_,none,none,none,none,rfl,hT0,fun a b ha hb h=>absurd h (by omega),S0⟩ ?_ ?_
  ·rintro k σ H2 hk ⟨T2,v4,v5,v6,v7,rfl,hT2,hI2,S2⟩
   obtain ⟨i,hi⟩:∃ i:Nat,i+k=es.length:=⟨es.length - k,by omega⟩
   have ei:((es.length:Nat):Int)+((k:Nat):Int) * -1=((i:Nat):Int):=by omega
   rw [ei]
   refine ⟨_,rfl,q0,_,rfl,.inr (sameT S2 hc),_,rfl,_,rfl,((cs.length:Nat):Int),-1,-1,cs.length+1,by rw [hlc],by decide,by decide,dn.1,dn.2,?_⟩
   refine for_range3 (fun t σ H3=>∃ (T:Tb) (v5 v6 v7:Option V),σ=[some (.ref p),some (.ref q0),some (.ref r0),some (.ref l),some (.int ((i:Nat):Int)),v5,v6,v7]/\TabAt H3 l rs es.length cs.length T/\(∀ a b,a<=es.length->b<=cs.length->(i < a\/(a=i/\cs.length < b+t))->RestAt (fun i st=>price es i pr st) (ways es cs) T a b)/\Same H H3)
    ⟨T2,v5,v6,v7,rfl,hT2,fun a b ha hb h=>hI2 a b ha hb (by omega),S2⟩ ?_ ?_
   ·rintro t σ H3 ht ⟨T3,v5,v6,v7,rfl,hT3,hI3,S3⟩
    obtain ⟨j,hj⟩:∃ j:Nat,j+t=cs.length:=⟨cs.length - t,by omega⟩
    have ej:((cs.length:Nat):Int)+((t:Nat):Int) * -1=((j:Nat):Int):=by omega
    rw [ej]
    have hR:RestI (fun i st=>price es i pr st) es.length cs.length (ways es cs) i j T3:=fun a b ha hb h=>hI3 a b ha hb (by omega)
    refine ⟨_,rfl,_,rfl,_,rfl,_,rfl,p,q0,es,cs,i,j,rfl,sameT S3 hp,sameT S3 hc,by omega,by omega,by omega,fun H4 lw as S4 hlw hW=>?_⟩
    have hok:=ways_ok (i:=i) (j:=j) (es:=es) hgc (by omega)
    have htn:∀ x ∈ ways es cs i j,turnOk es i x.1:=fun x hx=>by
     cases hx1:x.1 with
     | turn z=>exact ways_turn hx hx1
     | _=>trivial
    have hfw:=ways_fwd es cs i j (by omega) (by omega)
    have hend:∀ x ∈ ways es cs i j,∃ u,T3 x.2.1 x.2.2=some u:=fun x hx=>hR.ends (ways_fwd es cs) (by omega) (by omega) hx
    have hput:=hR.put (ways_fwd es cs) (by omega) (by omega)
    have hwl:=ways_few (es:=es) (cs:=cs) (i:=i) (j:=j) (by omega)
    generalize hws:ways es cs i j=ws at hW hok htn hfw hend hput hwl
    have hT4:=hT3.mono S4
    have S34:=S3.trans S4
    obtain ⟨ta,hta⟩:=zip_ways hW
    have hlz:H4 lw=some (.lst ((as.zip ws).map fun x=>V.ref x.1)):=by rw [zip_fst V.ref hW.len];exact hlw
    refine ⟨_,rfl,lw,rfl,⟨_,SqL.of hlz⟩,comp_trip (K:=K) (as:=as.zip ws) (v:=fun x=>V.ref x.1) (x:=fun x=>V.ref (ta x)) (y:=fun x=>.int ((x.2.2.1:Nat):Int)) (z:=fun x=>.int ((x.2.2.2:Nat):Int)) (fun x=>.int (price es i pr x.2.1+(T3 x.2.2.1 x.2.2.2).getD 0)) (src_list (SqL.of hlz)) (by rw [List.length_zip,hW.len];exact few (by omega)) (fun x hx=>⟨x.1,rfl,SqT.of (hta x hx).2.1⟩) (fun x hx kc hkc=>?_) (fun D hD=>?_)⟩
    ·obtain ⟨hxm,hx1,hx2⟩:=hta x hx
     have hx:=hfw _ hxm
     obtain ⟨u,hu⟩:=hend _ hxm
     obtain ⟨rd,erd,ard,hrd⟩:=hT4.line (i:=x.2.2.1) hx.1
     refine ⟨_,rfl,_,rfl,_,rfl,_,rfl,p,ta x,r0,es,i,x.2.1,pr,rfl,sameT S34 hp,hge,SqT.of hx2,hok _ hxm,htn _ hxm,sameT S34 hpr,h7,_,rfl,_,rfl,l,_,_,_,rfl,rfl,SqL.of hT4.top,ard,_,rfl,rd,_,_,_,rfl,rfl,SqL.of hrd,rowV_atI _ hx.2.1,?_⟩
     rw [hu] at hkc ⊢
     exact ⟨_,_,rfl,rfl,hkc⟩
    ·have SD:=same_upd (o:=.lst ((as.zip ws).map fun x=>V.int (price es i pr x.2.1+(T3 x.2.2.1 x.2.2.2).getD 0))) hD
     have hDl:upd H4 D (.lst ((as.zip ws).map fun x=>V.int (price es i pr x.2.1+(T3 x.2.2.1 x.2.2.2).getD 0))) D=some (.lst ((ws.map fun x=>price es i pr x.1+(T3 x.2.1 x.2.2).getD 0).map V.int)):=by
      rw [upd_same,List.map_map,zip_snd (fun x:Way=>V.int (price es i pr x.1+(T3 x.2.1 x.2.2).getD 0)) hW.len]
      rfl
     have hT5:=hT4.mono SD
     have S5:=S34.trans SD
     generalize upd H4 D (.lst ((as.zip ws).map fun x=>V.int (price es i pr x.2.1+(T3 x.2.2.1 x.2.2.2).getD 0)))=H5 at SD hDl hT5 S5
     obtain ⟨ri,eri,ari,hri⟩:=hT5.line (i:=i) (by omega)
     have g2:∀ o,Same H (upd H5 ri o):=fun o=>same_to S5 (hrf ri (List.mem_of_getElem? eri))
     refine ⟨_,rfl,D,_,rfl,SqL.of hDl,fun e0=>?_,fun m hm hle'=>?_⟩
     ·refine ⟨_,rfl,_,rfl,l,_,_,_,rfl,rfl,SqL.of hT5.top,ari,_,rfl,ri,_,_,j,rfl,rfl,hri,ixN_nat (by rw [rowV_len];omega),T3.put i j 0,_,_,_,rfl,hT5.put 0 eri (by omega),fun a b ha hb h=>?_,g2 _⟩
      have:=hput a b ha hb (by omega)
      rw [e0] at this
      exact this
     ·have em:m=leastOf (ws.map fun x=>price es i pr x.1+(T3 x.2.1 x.2.2).getD 0):=by
       have h1:=leastOf_le hm
       have h2:=hle' _ (leastOf_mem (fun z=>by rw [z] at hm;cases hm))
       omega
      refine ⟨_,rfl,_,rfl,l,_,_,_,rfl,rfl,SqL.of hT5.top,ari,_,rfl,ri,_,_,j,rfl,rfl,hri,ixN_nat (by rw [rowV_len];omega),T3.put i j m,_,_,_,rfl,hT5.put m eri (by omega),fun a b ha hb h=>by rw [em];exact hput a b ha hb (by omega),g2 _⟩
   ·rintro σ H3 ⟨T3,v5,v6,v7,rfl,hT3,hI3,S3⟩
    exact ⟨T3,_,_,_,_,rfl,hT3,fun a b ha hb h=>hI3 a b ha hb (by omega),S3⟩
  ·rintro σ H2 ⟨T2,v4,v5,v6,v7,rfl,hT2,hI2,S2⟩
   obtain ⟨hall,hL⟩:=rest_of (fun a b ha hb=>hI2 a b ha hb (by omega)) (ways_none es cs) (fun i j hi hj hn=>ways_some es cs hi hj hn)
   refine ⟨_,rfl,l,rs,es.length,cs.length,T2,rfl,hT2,by omega,fun H9 t ps S9 ht hpl hrow=>?_⟩
   refine q H9 t ps (fun i j=>(T2 i j).getD 0) (S2.trans S9) ht hpl (fun i y e=>?_) hL
   rw [hrow i y e]
   congr 2
   unfold rowV
   apply List.map_congr_left
   intro j hj
   have:=List.mem_range.mp hj
   have hil:i < ps.length:=(List.getElem?_eq_some_iff.mp e).1
   obtain ⟨v,hv⟩:=hall i j (by omega) (by omega)
   rw [hv]
   rfl
theorem bits_cell {ns:List Int} (hb:∀ m ∈ ns,Builtin.Int.intBits m<=1048576) (k:Int):Builtin.Int.intBits (cellD ns k)<=1048576:=by
 unfold cellD
 cases e:ns[k.toNat]? with
 | none=>show Builtin.Int.intBits 0<=_;decide
 | some n=>exact hb n (List.mem_of_getElem? e)
def spStir:Sp:=fun vs H Q _=>∃ c:Int,vs=[.int c]/\Builtin.Int.intBits c<=1048576/\∀ v:Int,Q (.int v) H
theorem scStir:FnScope ["cell"] ["cell"] (defScope sStir):=⟨rfl,rfl,rfl,by decide +kernel,rfl,by decide +kernel,by decide +kernel⟩
theorem ok_stir {f:Addr} {fd:FuncData} (F:Fun K "_law_stir" "_law_stir" sStir f fd):FnOk P w K mg base CX0 1 f fd ["cell"] spStir:=by
 refine Fun.okR F scStir (fun vs H Q E h=>?_) (fun cdv A outer s H vs Q Q2 E hr h hq=>?_)
 ·obtain ⟨c,rfl,_⟩:=h
  rfl
 ·obtain ⟨c,rfl,hb,q⟩:=h
  refine ⟨_,pss_one (ps_ret (pe_op op_mod (pe_op op_mulB (pv 0) pe_int) pe_int)),?_⟩
  refine ⟨_,rfl,_,_,rfl,rfl,PyProof.Rows.mulOk_of_bits (n:=1000) hb (by decide +kernel) (by decide),_,_,rfl,rfl,(by show (0:Int) < 170141183460469231731687303715884105727;decide),hq _ _ (Rst.same (Same.refl H) (q _))⟩
def spWord:Sp:=fun vs H Q _=>∃ a b:Int,vs=[.int a,.int b]/\∀ z,Good z->Q (.str z) H
theorem scWord:FnScope ["seed","code","letters","size","rest","word","k","step"] ["seed","code"] (defScope sWord):=⟨rfl,rfl,rfl,by decide +kernel,rfl,by decide +kernel,by decide +kernel⟩
theorem letter_at (r:Int):∃ c,atI (letters.cps.toList) (r % 26)=some c/\Al c:=by
 have h0:0<=r % 26:=Int.emod_nonneg _ (by decide)
 have h1:r % 26 < 26:=Int.emod_lt_of_pos _ (by decide)
 have e:r % 26=((r % 26).toNat:Int):=by omega
 refine ⟨97+(r % 26).toNat,?_,al_mod _ (by omega)⟩
 rw [e]
 refine atI_nat ?_
 rw [letters_cps,List.getElem?_map,List.getElem?_range (by omega)]
 rfl
def Lets (z:Str) (n:Nat):Prop:=z.length=n/\∀ c ∈ z.cps.toList,Al c
theorem lets_app {z:Str} {n c:Nat} (h:Lets z n) (hc:Al c):Lets (z++⟨#[c]⟩) (n+1):=by
 refine ⟨by rw [app_len,h.1];rfl,fun d hd=>?_⟩
 rw [app_list] at hd
 rcases List.mem_append.mp hd with hd | hd
 ·exact h.2 d hd
 ·have:d=c:=by simpa using hd
  rw [this];exact hc
theorem lets_good {z:Str} {n:Nat} (h:Lets z n) (h1:1<=n) (h2:n<=12):Good z:=⟨by rw [h.1];exact h1,by rw [h.1];exact h2,h.2⟩
theorem ok_word {f:Addr} {fd:FuncData} (F:Fun K "_law_word" "_law_word" sWord f fd) (mrange:mg "range" = none):FnOk P w K mg base CX0 1 f fd ["seed","code"] spWord:=by
 refine Fun.okR F scWord (fun vs H Q E h=>?_) (fun cdv A outer s H vs Q Q2 E hr h hq=>?_)
 ·obtain ⟨a,b,rfl,_⟩:=h
  rfl
 ·obtain ⟨a,b,rfl,q⟩:=h
  refine ⟨_,pss_cons (ps_set (i:=2) scWord.nd rfl (Or.inl rfl) pe_str)
   (pss_cons (ps_set (i:=3) scWord.nd rfl (Or.inl rfl) (pe_op op_add pe_int (pe_op op_mod (pv 0) pe_int)))
   (pss_cons (ps_set (i:=4) scWord.nd rfl (Or.inl rfl) (pe_op op_fdiv (pv 0) pe_int))
   (pss_cons (ps_set (i:=5) scWord.nd rfl (Or.inl rfl) pe_str)
   (pss_cons (ps_for PassesOwn.never rfl (pi_range1 (by rfl) mrange (pa_cons (pv 3) pa_nil)) (pg_name (i:=6) scWord.nd rfl (Or.inl rfl)) (pss_cons (ps_set (i:=7) scWord.nd rfl (Or.inl rfl) pe_int)
   (pss_cons (ps_mid (ps_if (pt_cmpR op_eq (pv 6) (pe_op op_mod (pe_op op_fdiv (pv 1) pe_int) (pv 3)) (nomark _)) (pss_one (ps_set (i:=7) scWord.nd rfl (Or.inl rfl) (pe_op op_mod (pv 1) pe_int))) pss_nil))
   (pss_cons (ps_set (i:=5) scWord.nd rfl (Or.inl rfl) (pe_op op_add_str (pv 5) (pe_ix ix_str (pv 2) (pe_op op_mod (pe_op op_add (pv 4) (pv 7)) pe_int) (fun _ _=>rfl))))
   (pss_one (ps_set (i:=4) scWord.nd rfl (Or.inl rfl) (pe_op op_fdiv (pv 4) pe_int)))))))
   (pss_cons (ps_mid (ps_if (pw_and (pt_cmpR op_eq (pv 1) pe_int (nomark _)) (pw_and1 (pt_cmpR op_lt (pv 3) pe_int (nomark _)))).pt (pss_one (ps_set (i:=5) scWord.nd rfl (Or.inl rfl) (pe_op op_add_str (pv 5) pe_str))) pss_nil))
   (pss_one (ps_ret (pv 5)))))))),?_⟩
  have m0:0<=a % 12:=Int.emod_nonneg _ (by decide)
  have m1:a % 12 < 12:=Int.emod_lt_of_pos _ (by decide)
  obtain ⟨n,hn⟩:∃ n:Nat,1+a % 12=(n:Int):=⟨(1+a % 12).toNat,by omega⟩
  refine ⟨_,rfl,_,_,rfl,rfl,(by show (0:Int) < 12;decide),_,_,rfl,rfl,?_⟩
  refine ⟨_,rfl,_,_,rfl,rfl,⟨by decide,by decide⟩,?_⟩
  refine ⟨_,rfl,1+a % 12,rfl,by omega,by omega,?_⟩
  refine for_range (n:=(1+a % 12).toNat) (fun i σ H2=>∃ (z:Str) (r:Int) (v6 v7:Option V),σ=[some (.int a),some (.int b),some (.str letters),some (.int (1+a % 12)),some (.int r),some (.str z),v6,v7]/\H2=H/\Lets z i)
   ⟨Str.ofString "",_,none,none,rfl,rfl,by decide +kernel,fun c hc=>absurd hc (by rw [show (Str.ofString "").cps.toList=[] from by decide +kernel];exact List.not_mem_nil)⟩ ?_ ?_
  ·rintro i σ H2 hi ⟨z,r,v6,v7,rfl,rfl,hz⟩
   refine ⟨fun σ' H'=>∃ s7:Int,σ'=[some (.int a),some (.int b),some (.str letters),some (.int (1+a % 12)),some (.int r),some (.str z),some (.int (0+((i:Nat):Int))),some (.int s7)]/\H'=H2,?_,?_⟩
   ·refine ⟨_,rfl,_,rfl,_,_,rfl,rfl,⟨by decide,by decide⟩,_,rfl,_,_,rfl,rfl,(by show (0:Int) < 1+a % 12;omega),rfl,_,rfl,?_⟩
    refine ite2 (fun _=>⟨_,rfl,_,_,rfl,rfl,(by show (0:Int) < 3;decide),_,rfl,rfl⟩) (fun _=>⟨_,rfl,rfl⟩)
   ·rintro σ' H' ⟨s7,rfl,rfl⟩
    obtain ⟨c,hc,ac⟩:=letter_at (r+s7)
    refine ⟨_,rfl,_,rfl,_,rfl,_,rfl,_,_,rfl,rfl,_,_,rfl,rfl,(by show (0:Int) < 26;decide),letters,_,c,rfl,rfl,(by decide +kernel),hc,_,_,rfl,rfl,few (by rw [hz.1];show _+1<=_;omega),?_⟩
    exact ⟨_,rfl,_,_,rfl,rfl,⟨by decide,by decide⟩,_,_,_,_,rfl,rfl,lets_app hz ac⟩
  ·rintro σ H2 ⟨z,r,v6,v7,rfl,rfl,hz⟩
   refine ⟨fun σ' H'=>∃ (z':Str) (v6' v7':Option V),σ'=[some (.int a),some (.int b),some (.str letters),some (.int (1+a % 12)),some (.int r),some (.str z'),v6',v7']/\H'=H2/\Good z',?_,?_⟩
   ·have g0:Good z:=lets_good hz (by omega) (by omega)
    refine ⟨_,rfl,rfl,_,rfl,?_⟩
    refine ite2 (fun _=>?_) (fun _=>iteF ⟨z,v6,v7,rfl,rfl,g0⟩)
    refine ⟨_,rfl,_,_,rfl,rfl,_,rfl,?_⟩
    refine ite2 (fun h12=>?_) (fun _=>⟨z,v6,v7,rfl,rfl,g0⟩)
    have h12:=of_decide_eq_true h12
    have hq1:=lets_app (c:=113) hz (by unfold Al;omega)
    have eq1:Str.ofString "q" = (⟨#[113]⟩:Str):=by decide +kernel
    refine ⟨_,rfl,_,_,rfl,rfl,few (by rw [hz.1,eq1];show _+1<=_;omega),_,_,_,rfl,rfl,?_⟩
    rw [eq1]
    exact lets_good hq1 (by omega) (by omega)
   ·rintro σ' H' ⟨z',v6',v7',rfl,rfl,hg⟩
    exact ⟨_,rfl,hq _ _ (Rst.same (Same.refl _) (q _ hg))⟩
theorem bits_mod (x:Int):Builtin.Int.intBits (x % 170141183460469231731687303715884105727)<=1048576:=by
 refine PyProof.Rows.bits_of_natAbs_le (b:=170141183460469231731687303715884105727) ?_ (by decide +kernel)
 have h0:0<=x % 170141183460469231731687303715884105727:=Int.emod_nonneg _ (by decide)
 have h1:x % 170141183460469231731687303715884105727 < 170141183460469231731687303715884105727:=Int.emod_lt_of_pos _ (by decide)
 omega
def spStirB:Sp:=fun vs H Q _=>∃ c:Int,vs=[.int c]/\Builtin.Int.intBits c<=1048576/\∀ v:Int,Builtin.Int.intBits v<=1048576->Q (.int v) H
theorem ok_stirB {f:Addr} {fd:FuncData} (F:Fun K "_law_stir" "_law_stir" sStir f fd):FnOk P w K mg base CX0 1 f fd ["cell"] spStirB:=by
 refine Fun.okR F scStir (fun vs H Q E h=>?_) (fun cdv A outer s H vs Q Q2 E hr h hq=>?_)
 ·obtain ⟨c,rfl,_⟩:=h
  rfl
 ·obtain ⟨c,rfl,hb,q⟩:=h
  refine ⟨_,pss_one (ps_ret (pe_op op_mod (pe_op op_mulB (pv 0) pe_int) pe_int)),?_⟩
  refine ⟨_,rfl,_,_,rfl,rfl,PyProof.Rows.mulOk_of_bits (n:=1000) hb (by decide +kernel) (by decide),_,_,rfl,rfl,(by show (0:Int) < 170141183460469231731687303715884105727;decide),hq _ _ (Rst.same (Same.refl H) (q _ (bits_mod _)))⟩
theorem scNext:FnScope ["left"] ["left"] (defScope sNext):=⟨rfl,rfl,rfl,by decide +kernel,rfl,by decide +kernel,by decide +kernel⟩
theorem ok_next {f:Addr} {fd:FuncData} (F:Fun K "_law_next" "_law_next" sNext f fd):FnOk P w K mg base CX0 1 f fd ["left"] spStirB:=by
 refine Fun.okR F scNext (fun vs H Q E h=>?_) (fun cdv A outer s H vs Q Q2 E hr h hq=>?_)
 ·obtain ⟨c,rfl,_⟩:=h
  rfl
 ·obtain ⟨c,rfl,hb,q⟩:=h
  refine ⟨_,pss_one (ps_ret (pe_op op_mod (pe_op op_mulB (pv 0) pe_int) pe_int)),?_⟩
  refine ⟨_,rfl,_,_,rfl,rfl,PyProof.Rows.mulOk_of_bits (n:=1000) hb (by decide +kernel) (by decide),_,_,rfl,rfl,(by show (0:Int) < 170141183460469231731687303715884105727;decide),hq _ _ (Rst.same (Same.refl H) (q _ (bits_mod _)))⟩
def spPrices:Sp:=fun vs H Q _=>∃ c:Int,vs=[.int c]/\Builtin.Int.intBits c<=1048576/\∀ (H':Hp) (p:Addr) (pr:List Int),Same H H'->H' p=some (.tup (pr.map V.int))->pr.length=7->(∀ x ∈ pr,0<=x/\x<=10 ^ 30)->Q (.ref p) H'
theorem scPrices:FnScope ["cell","left","prices","k","price"] ["cell"] (defScope sPrices):=⟨rfl,rfl,rfl,by decide +kernel,rfl,by decide +kernel,by decide +kernel⟩
theorem ok_prices {f gS gN:Addr} {fd dS dN:FuncData} (F:Fun K "_law_prices" "_law_prices" sPrices f fd) (DS:Dfn K mg "_law_stir" sStir gS dS ["cell"]) (DN:Dfn K mg "_law_next" sNext gN dN ["left"]) (mrange:mg "range" = none) (mtup:mg "tuple" = none):FnOk P w K mg base CX0 2 f fd ["cell"] spPrices:=by
 have GS:FnOk P w K mg base CX0 1 gS dS ["cell"] spStirB:=ok_stirB DS.fn
 have GN:FnOk P w K mg base CX0 1 gN dN ["left"] spStirB:=ok_next DN.fn
 refine F.ok scPrices (fun vs H Q E h=>?_) (fun cdv A outer s H vs Q E hr h=>?_)
 ·obtain ⟨c,rfl,_⟩:=h
  rfl
 ·obtain ⟨c,rfl,hb,q⟩:=h
  refine ⟨_,pss_cons (ps_set (i:=1) scPrices.nd rfl (Or.inl rfl) (pe_call GS hr (by rfl) DS.at_ DS.fn.kp DS.bn .nil pass0 (pa_cons (pv 0) pa_nil)))
   (pss_cons (ps_set (i:=2) scPrices.nd rfl (Or.inl rfl) (pe_lst pa_nil))
   (pss_cons (ps_for PassesOwn.never rfl (pi_range1 (by rfl) mrange (pa_cons pe_int pa_nil)) (pg_name (i:=3) scPrices.nd rfl (Or.inl rfl))
    (pss_cons (ps_set (i:=4) scPrices.nd rfl (Or.inl rfl) (pe_op op_mod (pe_op op_fdiv (pv 1) pe_int) pe_int))
    (pss_cons (ps_mid (ps_if (pt_cmpR op_eq (pe_op op_mod (pv 1) pe_int) pe_int (nomark _)) (pss_one (ps_set (i:=4) scPrices.nd rfl (Or.inl rfl) (pe_op op_mod (pe_op op_fdiv (pv 1) pe_int) pe_int))) pss_nil))
    (pss_cons (ps_mid (ps_if (pw_and (pt_cmpR op_eq (pe_op op_mod (pv 1) pe_int) pe_int (nomark _)) (pw_and1 (pt_cmpR op_eq (pe_op op_mod (pv 0) pe_int) pe_int (nomark _)))).pt (pss_one (ps_set (i:=4) scPrices.nd rfl (Or.inl rfl) (pe_op op_mod (pe_op op_fdiv (pv 0) (pe_op op_add (pv 3) pe_int)) (pe_op op_add (pe_op op_pow pe_int pe_int) pe_int)))) pss_nil))
    (pss_cons (ps_expr (pe_bm PySem.F.plainAttrs_list PySem.F.slot_list_append PySem.F.type_list_append mt_append (pv 2) (pa_cons (pv 4) pa_nil)))
    (pss_one (ps_set (i:=1) scPrices.nd rfl (Or.inl rfl) (pe_call GN hr (by rfl) DN.at_ DN.fn.kp DN.bn .nil pass0 (pa_cons (pv 1) pa_nil)))))))))
   (pss_one (ps_ret (pe_callTy call_tuple_of (by rfl) mtup boot_tuple (pa_cons (pv 2) pa_nil)))))),?_⟩
  have hM:(0:Int) < 10 ^ 30+1:=by decide
  have h4:(0:Int) < 4:=by decide
  have h12:(0:Int) < 12:=by decide
  have h3:(0:Int) < 3:=by decide
  refine ⟨_,rfl,c,rfl,hb,fun v hv=>⟨Nat.zero_le _,fun l hl=>?_⟩⟩
  refine ⟨7,rfl,by decide,by decide,for_range (n:=7) (fun i σ H2=>∃ (left:Int) (v3 v4:Option V) (pr:List Int),σ=[some (.int c),some (.int left),some (.ref l),v3,v4]/\Builtin.Int.intBits left<=1048576/\H2 l=some (.lst (pr.map V.int))/\Same H H2/\pr.length=i/\∀ x ∈ pr,0<=x/\x<=10 ^ 30)
   ⟨v,none,none,[],rfl,hv,upd_same,same_upd hl,rfl,fun _ z=>nomatch z⟩ ?_ ?_⟩
  ·rintro i σ H2 hi ⟨left,v3,v4,pr,rfl,hlb,h2,S2,hpl,hall⟩
   refine ⟨_,rfl,_,_,rfl,rfl,⟨by decide,by decide⟩,_,_,rfl,rfl,h4,?_⟩
   have m4:0<=left / 4 % 4/\left / 4 % 4<=10 ^ 30:=⟨Int.emod_nonneg _ (by decide),by have:=Int.emod_lt_of_pos (left / 4) h4;omega⟩
   have m12:0<=left / 4 % 12/\left / 4 % 12<=10 ^ 30:=⟨Int.emod_nonneg _ (by decide),by have:=Int.emod_lt_of_pos (left / 4) h12;omega⟩
   refine ⟨fun σ' H'=>H'=H2/\∃ x:Int,(0<=x/\x<=10 ^ 30)/\σ'=[some (.int c),some (.int left),some (.ref l),some (.int (0+((i:Nat):Int))),some (.int x)],?_,?_⟩
   ·refine ⟨_,rfl,_,_,rfl,rfl,h4,rfl,_,rfl,ite2 (fun _=>?_) (fun _=>⟨rfl,_,m4,rfl⟩)⟩
    exact ⟨_,rfl,_,_,rfl,rfl,⟨by decide,by decide⟩,_,_,rfl,rfl,h12,rfl,_,m12,rfl⟩
   rintro σ' H' ⟨rfl,x,hx,rfl⟩
   refine ⟨fun σ'' H''=>H''=H'/\∃ x:Int,(0<=x/\x<=10 ^ 30)/\σ''=[some (.int c),some (.int left),some (.ref l),some (.int (0+((i:Nat):Int))),some (.int x)],?_,?_⟩
   ·refine ⟨_,rfl,_,_,rfl,rfl,h4,rfl,_,rfl,ite2 (fun _=>?_) (fun _=>iteF ⟨rfl,_,hx,rfl⟩)⟩
    refine ⟨_,rfl,_,_,rfl,rfl,h3,rfl,_,rfl,ite2 (fun _=>?_) (fun _=>⟨rfl,_,hx,rfl⟩)⟩
    refine ⟨_,rfl,_,rfl,_,_,rfl,rfl,_,_,rfl,rfl,⟨by omega,by omega⟩,_,_,rfl,rfl,⟨by decide,by decide,by decide⟩,_,_,rfl,rfl,_,_,rfl,rfl,hM,rfl,_,⟨Int.emod_nonneg _ (by decide),?_⟩,rfl⟩
    have:=Int.emod_lt_of_pos (c / (0+((i:Nat):Int)+1)) hM
    exact Int.lt_add_one_iff.mp this
   rintro σ'' H'' ⟨rfl,y,hy,rfl⟩
   refine ⟨_,rfl,.inl ⟨rfl,_,SqL.of h2⟩,_,rfl,l,_,_,rfl,rfl,h2,(by rw [List.length_map];exact fewer (by omega)),?_⟩
   refine ⟨_,rfl,left,rfl,hlb,fun v2 hv2=>⟨v2,_,_,pr++[y],rfl,hv2,by rw [upd_same,List.map_append];rfl,same_to S2 hl,by rw [List.length_append,hpl];rfl,fun z hz=>?_⟩⟩
   rcases List.mem_append.mp hz with hz | hz
   ·exact hall z hz
   ·rw [List.mem_singleton.mp hz];exact hy
  ·rintro σ H2 ⟨left,v3,v4,pr,rfl,hlb,h2,S2,hpl,hall⟩
   refine ⟨_,rfl,l,_,rfl,.inl ⟨SqL.of h2,fun t ht=>?_⟩⟩
   exact q _ t pr (S2.trans (same_upd ht)) upd_same hpl hall
def spEye (K:PySem.W.Frag):Sp:=fun vs H Q _=>∃ (lE:Addr) (es:List Str) (a b c:Int),vs=[.ref lE,.int a,.int b,.int c]/\H lE=some (.lst (es.map V.str))/\es ≠ []/\(∀ z ∈ es,Good z)/\es.length<=100000 ∧
 ∀ (H':Hp) (l:Addr) (ws:List Str),Same H H'->H l=none->H' l=some (.lst (ws.map V.str))->(∀ z ∈ ws,Good z)->1<=ws.length->ws.length<=12->Q (.ref l) H'
theorem scEye:FnScope ["elder","left","seed","most","many"] ["elder","left","seed","most"] (defScope sEye):=⟨rfl,rfl,rfl,by decide +kernel,rfl,by decide +kernel,by decide +kernel⟩
theorem nd_kls:(["k","left","seed"]:List Str).Nodup:=by decide +kernel
theorem ok_eye {f gW:Addr} {fd dW:FuncData} (F:Fun K "_law_eye" "_law_eye" sEye f fd) (DW:Dfn K mg "_law_word" sWord gW dW ["seed","code"]) (mlen:mg "len" = none) (mrange:mg "range" = none) (mmax:mg "max" = none) (mmin:mg "min" = none):FnOk P w K mg base CX0 2 f fd ["elder","left","seed","most"] (spEye K):=by
 have GW:FnOk P w K mg base CX0 1 gW dW ["seed","code"] spWord:=ok_word DW.fn mrange
 refine F.ok scEye (fun vs H Q E h=>?_) (fun cdv A outer s H vs Q E hr h=>?_)
 ·obtain ⟨lE,es,a,b,c,rfl,_⟩:=h
  rfl
 ·obtain ⟨lE,es,a,b,c,rfl,hE,hne,hg,hel,q⟩:=h
  refine ⟨_,pss_cons (ps_set (i:=4) scEye.nd rfl (Or.inl rfl) (pe_callB (call_max2 rfl) (by rfl) mmax boot_max (pa_cons pe_int (pa_cons (pe_callB (call_min2 rfl) (by rfl) mmin boot_min (pa_cons (pe_op op_mod (pe_op op_fdiv (pv 1) pe_int) pe_int) (pa_cons (pe_op op_sub (pv 3) (pe_callB call_len_seq (by rfl) mlen PySem.boot_len (pa_cons (pv 0) pa_nil))) pa_nil))) pa_nil))))
   (pss_one (ps_ret (pe_op op_cat (pe_comp (Nc:=["k","left","seed"]) (mp:=[none,some 1,some 2]) rfl (CompOk.of (by rfl)) (pi_range1 (by rfl) mrange (pa_cons (pv 4) pa_nil)) (fun cl C s H fp=>⟨pg_name (i:=0) nd_kls rfl (Or.inl rfl),pts_nil,(pe_call GW hr (by rfl) DW.at_ DW.fn.kp DW.bn .nil pass0 (pa_cons (pv 2) (pa_cons (pe_op op_mod (pe_op op_add (pe_op op_fdiv (pv 1) pe_int) (pe_op op_mul (pe_op op_mul pe_int (pv 0)) (pv 0))) pe_int) pa_nil)))⟩)) (pe_lst (pa_cons (pe_ix ix_list (pv 0) (pe_un un_neg pe_int) (fun _ _=>rfl)) pa_nil))))),?_⟩
  have m0:0<=a / 9000 % 12:=Int.emod_nonneg _ (by decide)
  have m1:a / 9000 % 12 < 12:=Int.emod_lt_of_pos _ (by decide)
  refine ⟨_,rfl,_,_,rfl,rfl,⟨by decide,by decide⟩,_,_,rfl,rfl,(by show (0:Int) < 12;decide),_,rfl,_,rfl,lE,_,rfl,.inl (SqL.of hE),_,_,rfl,rfl,_,_,rfl,_,_,rfl,?_⟩
  obtain ⟨many,hmany⟩:∃ many:Int,many=(if (if c - ((es.map V.str).length:Int) < a / 9000 % 12 then c - ((es.map V.str).length:Int) else a / 9000 % 12) > 0 then (if c - ((es.map V.str).length:Int) < a / 9000 % 12 then c - ((es.map V.str).length:Int) else a / 9000 % 12) else 0):=⟨_,rfl⟩
  have hm0:0<=many/\many < 12:=by rw [hmany];split <;> (split <;> omega)
  refine ⟨_,rfl,many,(by rw [hmany]),by omega,by omega,?_⟩
  obtain ⟨n,hn⟩:∃ n:Nat,many=(n:Int):=⟨many.toNat,by omega⟩
  have en:many.toNat=n:=by omega
  rw [en]
  refine comp_grow (as:=List.range n) (v:=fun k=>.int (0+((k:Nat):Int))) (fun i acc H'=>H'=H/\∃ ws:List Str,acc=ws.map V.str/\ws.length=i/\∀ z ∈ ws,Good z) (fun i acc H' _ ⟨e,_⟩=>by rw [e];exact src_range 0 n H) (by rw [List.length_range];exact few (by omega))
   ⟨rfl,[],rfl,rfl,fun _ z=>nomatch z⟩ (fun i acc H' ⟨_,ws,e,hl,_⟩=>by rw [e,List.length_map,hl]) ?_ ?_
  ·rintro i k acc H' hk ⟨rfl,ws,rfl,hl,hw⟩ kk hkk
   have hk':k < 12:=by
    have:=List.mem_range.mp (List.mem_of_getElem? hk)
    omega
   refine ⟨_,rfl,_,rfl,_,_,rfl,rfl,⟨by decide,by decide⟩,_,rfl,_,_,rfl,rfl,.inl ⟨by decide,by decide⟩,_,rfl,_,_,rfl,rfl,.inr ⟨by show -(2 ^ 64) < 0+((k:Nat):Int);omega,by show 0+((k:Nat):Int) < 2 ^ 64;omega⟩,_,_,rfl,rfl,_,_,rfl,rfl,(by show (0:Int) < 10;decide),_,_,rfl,fun z hz=>hkk _ _ ⟨rfl,ws++[z],by rw [List.map_append];rfl,by rw [List.length_append,hl];rfl,fun y hy=>?_⟩⟩
   rcases List.mem_append.mp hy with hy | hy
   ·exact hw y hy
   ·rw [List.mem_singleton.mp hy];exact hz
  ·rintro acc H' ⟨rfl,ws,rfl,hl,hw⟩ D hD
   rw [List.length_range] at hl
   have SD:=same_upd (o:=.lst (ws.map V.str)) hD
   have hE1:=SD _ _ hE
   obtain ⟨z,ez,az⟩:=last_at (cp:=es) (by rcases es with _ | ⟨x,r⟩;exact absurd rfl hne;simp)
   have gz:Good z:=hg z (List.mem_of_getLast? ez)
   refine ⟨_,rfl,_,rfl,lE,_,_,_,rfl,rfl,SqL.of hE1,az,few (by show 1<=_;omega),fun l2 hl2=>?_⟩
   have S2:=same_upd (o:=.lst [.str z]) hl2
   refine ⟨D,l2,_,_,rfl,rfl,S2 _ _ upd_same,upd_same,(by rw [List.length_map];exact few (by show _+1<=_;omega)),fun l3 hl3=>?_⟩
   have S3:=same_upd (o:=.lst (ws.map V.str++[.str z])) hl3
   refine q _ l3 (ws++[z]) ((SD.trans S2).trans S3) ((SD.trans S2).free hl3) (by rw [upd_same,List.map_append];rfl) (fun y hy=>?_) (by rw [List.length_append];show 1<=_+1;omega) (by rw [List.length_append];show _+1<=_;omega)
   rcases List.mem_append.mp hy with hy | hy
   ·exact hw y hy
   ·rw [List.mem_singleton.mp hy];exact gz
structure Tri (H H':Hp) (lE lC lS:Addr) (es cs:List Str) (ss:List V):Prop where
 fr:∀ x o,x ≠ lE->x ≠ lC->x ≠ lS->H x=some o->H' x=some o
 e:H' lE=some (.lst (es.map V.str))
 c:H' lC=some (.lst (cs.map V.str))
 s:H' lS=some (.lst ss)
 ec:lE ≠ lC
 es_:lE ≠ lS
 cs_:lC ≠ lS
theorem Tri.ne {H H':Hp} {lE lC lS:Addr} {es cs:List Str} {ss:List V} (t:Tri H H' lE lC lS es cs ss) (es2:List Str) {xs:List V} (h:xs=es2.map V.str):Tri H (upd H' lE (.lst xs)) lE lC lS es2 cs ss:=by
 subst h
 exact ⟨fun x o n1 n2 n3 h=>by rw [upd_ne n1];exact t.fr x o n1 n2 n3 h,upd_same,by rw [upd_ne (Ne.symm t.ec)];exact t.c,by rw [upd_ne (Ne.symm t.es_)];exact t.s,t.ec,t.es_,t.cs_⟩
theorem Tri.nc {H H':Hp} {lE lC lS:Addr} {es cs:List Str} {ss:List V} (t:Tri H H' lE lC lS es cs ss) (cs2:List Str) {xs:List V} (h:xs=cs2.map V.str):Tri H (upd H' lC (.lst xs)) lE lC lS es cs2 ss:=by
 subst h
 exact ⟨fun x o n1 n2 n3 h=>by rw [upd_ne n2];exact t.fr x o n1 n2 n3 h,by rw [upd_ne t.ec];exact t.e,upd_same,by rw [upd_ne (Ne.symm t.cs_)];exact t.s,t.ec,t.es_,t.cs_⟩
theorem Tri.ns {H H':Hp} {lE lC lS:Addr} {es cs:List Str} {ss:List V} (t:Tri H H' lE lC lS es cs ss) (ss2:List V):Tri H (upd H' lS (.lst ss2)) lE lC lS es cs ss2:=
 ⟨fun x o n1 n2 n3 h=>by rw [upd_ne n3];exact t.fr x o n1 n2 n3 h,by rw [upd_ne t.es_];exact t.e,by rw [upd_ne t.cs_];exact t.c,upd_same,t.ec,t.es_,t.cs_⟩
theorem Tri.nw {H H':Hp} {lE lC lS p:Addr} {es cs:List Str} {ss:List V} {o:HO} (t:Tri H H' lE lC lS es cs ss) (h:H' p=none):Tri H (upd H' p o) lE lC lS es cs ss:=
 have S:=same_upd (o:=o) h
 ⟨fun x o n1 n2 n3 h=>S _ _ (t.fr x o n1 n2 n3 h),S _ _ t.e,S _ _ t.c,S _ _ t.s,t.ec,t.es_,t.cs_⟩
theorem Tri.to {H H1 H':Hp} {lE lC lS:Addr} {es cs es' cs':List Str} {ss ss':List V} (t:Tri H H1 lE lC lS es cs ss) (t':Tri H1 H' lE lC lS es' cs' ss'):Tri H H' lE lC lS es' cs' ss':=
 ⟨fun x o n1 n2 n3 h=>t'.fr x o n1 n2 n3 (t.fr x o n1 n2 n3 h),t'.e,t'.c,t'.s,t'.ec,t'.es_,t'.cs_⟩
theorem good_app {xs ys:List Str} (h:∀ z ∈ xs,Good z) (h2:∀ z ∈ ys,Good z):∀ z ∈ xs++ys,Good z:=fun z hz=>by
 rcases List.mem_append.mp hz with hz | hz
 ·exact h z hz
 ·exact h2 z hz
theorem good_one {a:Str} (h:Good a):∀ z ∈ [a],Good z:=fun z hz=>by rw [List.mem_singleton.mp hz];exact h
theorem good_two {a b:Str} (h:Good a) (h2:Good b):∀ z ∈ [a,b],Good z:=good_app (good_one h) (good_one h2)
theorem pss_as {X:Cx} {sts:List Stmt} {t:TS} (t':TS) (h:PSs X sts t) (hw:∀ D σ H,t' D σ H->t D σ H):PSs X sts t':=fun pins s σ H D I hh=>h pins s σ H D I (hw D σ H hh)
def spSlip (K:PySem.W.Frag):Sp:=fun vs H Q _=>∃ (lE lC lS lW:Addr) (es cs:List Str) (ss:List V) (n:Int) (a b:Str),vs=[.ref lE,.ref lC,.ref lS,.int n,.ref lW]/\Tri H H lE lC lS es cs ss/\H lW=some (.lst [.str a,.str b])/\Good a/\Good b/\(∀ z ∈ es,Good z)/\(∀ z ∈ cs,Good z)/\es.length<=10000/\cs.length<=10000/\ss.length<=10000 ∧
 ∀ (H':Hp) (es' cs':List Str) (ss':List V),Tri H H' lE lC lS es' cs' ss'->(∀ z ∈ es',Good z)->(∀ z ∈ cs',Good z)->es'.length<=es.length+2->cs'.length<=cs.length+2->ss'.length<=ss.length+1->Q .non H'
theorem scSlip:FnScope ["elder","copy","steps","left","words","word","other","way"] ["elder","copy","steps","left","words"] (defScope sSlip):=⟨rfl,rfl,rfl,by decide +kernel,rfl,by decide +kernel,by decide +kernel⟩
theorem ok_slip {f:Addr} {fd:FuncData} (F:Fun K "_law_slip" "_law_slip" sSlip f fd):FnOk P w K mg base CX0 1 f fd ["elder","copy","steps","left","words"] (spSlip K):=by
 refine F.ok scSlip (fun vs H Q E h=>?_) (fun cdv A outer s H vs Q E hr h=>?_)
 ·obtain ⟨lE,lC,lS,lW,es,cs,ss,n,a,b,rfl,_⟩:=h
  rfl
 ·obtain ⟨lE,lC,lS,lW,es,cs,ss,n,a,b,rfl,T,hW,ga,gb,ge,gc,le,lc,ls,q⟩:=h
  have z1:(1:Nat)<=sizeLine:=few (by omega)
  have z2:(2:Nat)<=sizeLine:=few (by omega)
  have la:∀ (xs:List Str),xs.length<=20000->(xs.map V.str).length < sizeLine:=fun xs h=>by rw [List.length_map];exact fewer (by omega)
  have l2:∀ (xs:List Str),xs.length<=20000->(xs.map V.str).length+2<=sizeLine:=fun xs h=>by rw [List.length_map];exact few (by omega)
  have lss:ss.length < sizeLine:=fewer (by omega)
  let tG:TS:=fun D σ H1=>σ=[some (.ref lE),some (.ref lC),some (.ref lS),some (.int n),some (.ref lW),some (.str a),some (.str b),some (.int (n % 9))]/\Tri H H1 lE lC lS es cs ss/\∀ (H':Hp) (es' cs':List Str) (ss':List V),Tri H H' lE lC lS es' cs' ss'->(∀ z ∈ es',Good z)->(∀ z ∈ cs',Good z)->es'.length<=es.length+2->cs'.length<=cs.length+2->ss'.length<=ss.length+1->D.nx [some (.ref lE),some (.ref lC),some (.ref lS),some (.int n),some (.ref lW),some (.str a),some (.str b),some (.int (n % 9))] H'
  refine ⟨_,pss_cons (ps_set (i:=5) scSlip.nd rfl (Or.inl rfl) (pe_ix ix_list (pv 4) pe_int (fun _ _=>rfl)))
   (pss_cons (ps_set (i:=6) scSlip.nd rfl (Or.inl rfl) (pe_ix ix_list (pv 4) pe_int (fun _ _=>rfl)))
   (pss_cons (ps_set (i:=7) scSlip.nd rfl (Or.inl rfl) (pe_op op_mod (pv 3) pe_int))
   (pss_as tG (pss_one (ps_if (pw_and (pt_cmpR op_eq (pv 7) pe_int (nomark _)) (pw_and1 (pt_cmpR op_ne (pv 5) (pv 6) (nomark _)))).pt (pss_cons (ps_expr (pe_bm PySem.F.plainAttrs_list PySem.F.slot_list_append PySem.F.type_list_append mt_append (pv 0) (pa_cons (pv 5) pa_nil)))
   (pss_cons (ps_expr (pe_bm PySem.F.plainAttrs_list PySem.F.slot_list_append PySem.F.type_list_append mt_append (pv 1) (pa_cons (pv 6) pa_nil)))
   (pss_one (ps_expr (pe_bm PySem.F.plainAttrs_list PySem.F.slot_list_append PySem.F.type_list_append mt_append (pv 2) (pa_cons (pe_tup (pa_cons pe_str (pa_cons (pv 6) pa_nil))) pa_nil)))))) (pss_as tG (pss_one (ps_if (pt_cmpR op_eq (pv 7) pe_int (nomark _)) (pss_cons (ps_expr (pe_bm PySem.F.plainAttrs_list PySem.F.slot_list_append PySem.F.type_list_append mt_append (pv 0) (pa_cons (pv 5) pa_nil)))
   (pss_one (ps_expr (pe_bm PySem.F.plainAttrs_list PySem.F.slot_list_append PySem.F.type_list_append mt_append (pv 2) (pa_cons (pe_tup (pa_cons pe_str pa_nil)) pa_nil))))) (pss_as tG (pss_one (ps_if (pt_cmpR op_eq (pv 7) pe_int (nomark _)) (pss_cons (ps_expr (pe_bm PySem.F.plainAttrs_list PySem.F.slot_list_append PySem.F.type_list_append mt_append (pv 1) (pa_cons (pv 5) pa_nil)))
   (pss_one (ps_expr (pe_bm PySem.F.plainAttrs_list PySem.F.slot_list_append PySem.F.type_list_append mt_append (pv 2) (pa_cons (pe_tup (pa_cons pe_str (pa_cons (pv 5) pa_nil))) pa_nil))))) (pss_as tG (pss_one (ps_if (pw_and (pt_cmpR op_eq (pv 7) pe_int (nomark _)) (pw_and1 (pt_cmpR (op_neS hr.units) (pv 1) (pe_lst pa_nil) (nomark _)))).pt (pss_cons (ps_expr (pe_bm PySem.F.plainAttrs_list PySem.F.slot_list_append PySem.F.type_list_append mt_append (pv 1) (pa_cons (pe_ix ix_list (pv 1) (pe_un un_neg pe_int) (fun _ _=>rfl)) pa_nil)))
   (pss_one (ps_expr (pe_bm PySem.F.plainAttrs_list PySem.F.slot_list_append PySem.F.type_list_append mt_append (pv 2) (pa_cons (pe_tup (pa_cons pe_str pa_nil)) pa_nil))))) (pss_as tG (pss_one (ps_if (pw_and (pt_cmpR op_eq (pv 7) pe_int (nomark _)) (pw_and1 (pt_cmpR op_ne (pv 5) (pv 6) (nomark _)))).pt (pss_cons (ps_expr (pe_bm PySem.F.plainAttrs_list PySem.F.slot_list_extend PySem.F.type_list_extend mt_extend (pv 0) (pa_cons (pe_lst (pa_cons (pv 5) (pa_cons (pv 6) pa_nil))) pa_nil)))
   (pss_cons (ps_expr (pe_bm PySem.F.plainAttrs_list PySem.F.slot_list_extend PySem.F.type_list_extend mt_extend (pv 1) (pa_cons (pe_lst (pa_cons (pv 6) (pa_cons (pv 5) pa_nil))) pa_nil)))
   (pss_one (ps_expr (pe_bm PySem.F.plainAttrs_list PySem.F.slot_list_append PySem.F.type_list_append mt_append (pv 2) (pa_cons (pe_tup (pa_cons pe_str pa_nil)) pa_nil)))))) (pss_as tG (pss_cons (ps_expr (pe_bm PySem.F.plainAttrs_list PySem.F.slot_list_append PySem.F.type_list_append mt_append (pv 0) (pa_cons (pv 5) pa_nil)))
   (pss_cons (ps_expr (pe_bm PySem.F.plainAttrs_list PySem.F.slot_list_append PySem.F.type_list_append mt_append (pv 1) (pa_cons (pv 5) pa_nil)))
   (pss_one (ps_expr (pe_bm PySem.F.plainAttrs_list PySem.F.slot_list_append PySem.F.type_list_append mt_append (pv 2) (pa_cons (pe_tup (pa_cons pe_str pa_nil)) pa_nil)))))) (by
   rintro D σ H1 ⟨rfl,T1,fin⟩
   refine ⟨_,rfl,.inl ⟨rfl,_,SqL.of T1.e⟩,_,rfl,lE,_,_,rfl,rfl,T1.e,la es (by omega),?_⟩
   have T2:=T1.ne (es++[a]) (xs:=es.map V.str++[.str a]) (by rw [List.map_append];rfl)
   refine ⟨_,rfl,.inl ⟨rfl,_,SqL.of T2.c⟩,_,rfl,lC,_,_,rfl,rfl,T2.c,la cs (by omega),?_⟩
   have T3:=T2.nc (cs++[a]) (xs:=cs.map V.str++[.str a]) (by rw [List.map_append];rfl)
   refine ⟨_,rfl,.inl ⟨rfl,_,SqL.of T3.s⟩,z1,fun t ht=>⟨lS,_,_,rfl,rfl,(T3.nw ht).s,lss,?_⟩⟩
   exact fin _ _ _ _ ((T3.nw ht).ns _) (good_app ge (good_one ga)) (good_app gc (good_one ga)) (by rw [List.length_append];show _+1<=_;omega) (by rw [List.length_append];show _+1<=_;omega) (by rw [List.length_append];show _+1<=_;omega))))) (by
   rintro D σ H1 ⟨rfl,T1,fin⟩
   refine ⟨_,rfl,rfl,_,rfl,?_⟩
   refine ite2 (fun _=>?_) (fun _=>iteF ⟨rfl,T1,fin⟩)
   refine ⟨_,rfl,_,rfl,rfl,_,rfl,?_⟩
   refine ite2 (fun _=>?_) (fun _=>⟨rfl,T1,fin⟩)
   refine ⟨_,rfl,.inl ⟨rfl,_,SqL.of T1.e⟩,_,rfl,_,rfl,z2,fun l1 hl1=>⟨lE,l1,_,_,rfl,rfl,(T1.nw hl1).e,upd_same,l2 es (by omega),?_⟩⟩
   have T2:=(T1.nw (o:=.lst [.str a,.str b]) hl1).ne (es++[a,b]) (xs:=es.map V.str++[.str a,.str b]) (by rw [List.map_append];rfl)
   refine ⟨_,rfl,.inl ⟨rfl,_,SqL.of T2.c⟩,_,rfl,_,rfl,z2,fun l3 hl3=>⟨lC,l3,_,_,rfl,rfl,(T2.nw hl3).c,upd_same,l2 cs (by omega),?_⟩⟩
   have T3:=(T2.nw (o:=.lst [.str b,.str a]) hl3).nc (cs++[b,a]) (xs:=cs.map V.str++[.str b,.str a]) (by rw [List.map_append];rfl)
   refine ⟨_,rfl,.inl ⟨rfl,_,SqL.of T3.s⟩,z1,fun t ht=>⟨lS,_,_,rfl,rfl,(T3.nw ht).s,lss,?_⟩⟩
   exact fin _ _ _ _ ((T3.nw ht).ns _) (good_app ge (good_two ga gb)) (good_app gc (good_two gb ga)) (by rw [List.length_append];show _+2<=_;omega) (by rw [List.length_append];show _+2<=_;omega) (by rw [List.length_append];show _+1<=_;omega))))) (by
   rintro D σ H1 ⟨rfl,T1,fin⟩
   refine ⟨_,rfl,rfl,_,rfl,?_⟩
   refine ite2 (fun _=>?_) (fun _=>iteF ⟨rfl,T1,fin⟩)
   refine ⟨_,rfl,Nat.zero_le _,fun l0 hl0=>?_⟩
   have T2:=T1.nw (o:=.lst []) hl0
   refine ⟨0,decide (cs=[]),by decide,EqS.strs (ys:=[]) (.inl ⟨SqL.of T2.c,SqL.of upd_same⟩),_,rfl,?_⟩
   by_cases h0:cs=[]
   ·rw [decide_eq_true h0]
    exact iteF ⟨rfl,T2,fin⟩
   ·rw [decide_eq_false h0]
    obtain ⟨z,ez,az⟩:=last_at (cp:=cs) (by rcases cs with _ | ⟨x,r⟩;exact absurd rfl h0;simp)
    have gz:Good z:=gc z (List.mem_of_getLast? ez)
    refine iteT ⟨_,rfl,.inl ⟨rfl,_,SqL.of T2.c⟩,_,rfl,_,rfl,lC,_,_,_,rfl,rfl,SqL.of T2.c,az,lC,_,_,rfl,rfl,T2.c,la cs (by omega),?_⟩
    have T3:=T2.nc (cs++[z]) (xs:=cs.map V.str++[.str z]) (by rw [List.map_append];rfl)
    refine ⟨_,rfl,.inl ⟨rfl,_,SqL.of T3.s⟩,z1,fun t ht=>⟨lS,_,_,rfl,rfl,(T3.nw ht).s,lss,?_⟩⟩
    exact fin _ _ _ _ ((T3.nw ht).ns _) ge (good_app gc (good_one gz)) (by omega) (by rw [List.length_append];show _+1<=_;omega) (by rw [List.length_append];show _+1<=_;omega))))) (by
   rintro D σ H1 ⟨rfl,T1,fin⟩
   refine ⟨_,rfl,rfl,_,rfl,?_⟩
   refine ite2 (fun _=>?_) (fun _=>⟨rfl,T1,fin⟩)
   refine ⟨_,rfl,.inl ⟨rfl,_,SqL.of T1.c⟩,_,rfl,lC,_,_,rfl,rfl,T1.c,la cs (by omega),?_⟩
   have T3:=T1.nc (cs++[a]) (xs:=cs.map V.str++[.str a]) (by rw [List.map_append];rfl)
   refine ⟨_,rfl,.inl ⟨rfl,_,SqL.of T3.s⟩,_,rfl,z2,fun t ht=>⟨lS,_,_,rfl,rfl,(T3.nw ht).s,lss,?_⟩⟩
   exact fin _ _ _ _ ((T3.nw ht).ns _) ge (good_app gc (good_one ga)) (by omega) (by rw [List.length_append];show _+1<=_;omega) (by rw [List.length_append];show _+1<=_;omega))))) (by
   rintro D σ H1 ⟨rfl,T1,fin⟩
   refine ⟨_,rfl,rfl,_,rfl,?_⟩
   refine ite2 (fun _=>?_) (fun _=>⟨rfl,T1,fin⟩)
   refine ⟨_,rfl,.inl ⟨rfl,_,SqL.of T1.e⟩,_,rfl,lE,_,_,rfl,rfl,T1.e,la es (by omega),?_⟩
   have T3:=T1.ne (es++[a]) (xs:=es.map V.str++[.str a]) (by rw [List.map_append];rfl)
   refine ⟨_,rfl,.inl ⟨rfl,_,SqL.of T3.s⟩,z1,fun t ht=>⟨lS,_,_,rfl,rfl,(T3.nw ht).s,lss,?_⟩⟩
   exact fin _ _ _ _ ((T3.nw ht).ns _) (good_app ge (good_one ga)) gc (by rw [List.length_append];show _+1<=_;omega) (by omega) (by rw [List.length_append];show _+1<=_;omega))))) (by
   rintro D σ H1 ⟨rfl,T1,fin⟩
   refine ⟨_,rfl,rfl,_,rfl,?_⟩
   refine ite2 (fun _=>?_) (fun _=>iteF ⟨rfl,T1,fin⟩)
   refine ⟨_,rfl,_,rfl,rfl,_,rfl,?_⟩
   refine ite2 (fun _=>?_) (fun _=>⟨rfl,T1,fin⟩)
   refine ⟨_,rfl,.inl ⟨rfl,_,SqL.of T1.e⟩,_,rfl,lE,_,_,rfl,rfl,T1.e,la es (by omega),?_⟩
   have T2:=T1.ne (es++[a]) (xs:=es.map V.str++[.str a]) (by rw [List.map_append];rfl)
   refine ⟨_,rfl,.inl ⟨rfl,_,SqL.of T2.c⟩,_,rfl,lC,_,_,rfl,rfl,T2.c,la cs (by omega),?_⟩
   have T3:=T2.nc (cs++[b]) (xs:=cs.map V.str++[.str b]) (by rw [List.map_append];rfl)
   refine ⟨_,rfl,.inl ⟨rfl,_,SqL.of T3.s⟩,_,rfl,z2,fun t ht=>⟨lS,_,_,rfl,rfl,(T3.nw ht).s,lss,?_⟩⟩
   exact fin _ _ _ _ ((T3.nw ht).ns _) (good_app ge (good_one ga)) (good_app gc (good_one gb)) (by rw [List.length_append];show _+1<=_;omega) (by rw [List.length_append];show _+1<=_;omega) (by rw [List.length_append];show _+1<=_;omega))))),?_⟩
  refine ⟨_,rfl,lW,_,_,_,rfl,rfl,SqL.of hW,rfl,?_⟩
  refine ⟨_,rfl,lW,_,_,_,rfl,rfl,SqL.of hW,rfl,?_⟩
  refine ⟨_,rfl,_,_,rfl,rfl,(by show (0:Int) < 9;decide),?_⟩
  exact ⟨rfl,T,q⟩
theorem Tri.sm {H H1 H2:Hp} {lE lC lS:Addr} {es cs:List Str} {ss:List V} (t:Tri H H1 lE lC lS es cs ss) (S:Same H1 H2):Tri H H2 lE lC lS es cs ss:=
 ⟨fun x o n1 n2 n3 h=>S _ _ (t.fr x o n1 n2 n3 h),S _ _ t.e,S _ _ t.c,S _ _ t.s,t.ec,t.es_,t.cs_⟩
theorem Tri.self {H H1:Hp} {lE lC lS:Addr} {es cs:List Str} {ss:List V} (t:Tri H H1 lE lC lS es cs ss):Tri H1 H1 lE lC lS es cs ss:=⟨fun _ _ _ _ _ h=>h,t.e,t.c,t.s,t.ec,t.es_,t.cs_⟩
theorem Tri.same {H H0 H2:Hp} {lE lC lS:Addr} {es cs:List Str} {ss:List V} (t:Tri H0 H2 lE lC lS es cs ss) (S:Same H H0) (h1:H lE=none) (h2:H lC=none) (h3:H lS=none):Same H H2:=fun x o h=>
 t.fr x o (fun e=>by rw [e,h1] at h;cases h) (fun e=>by rw [e,h2] at h;cases h) (fun e=>by rw [e,h3] at h;cases h) (S x o h)
def spPair (K:PySem.W.Frag):Sp:=fun vs H Q _=>∃ (lc:Addr) (ns:List Int) (a b:Int),vs=[.ref lc,.int a,.int b]/\SqL K H lc (ns.map V.int)/\(∀ m ∈ ns,Builtin.Int.intBits m<=1048576)/\ns.length<=63 ∧
 ∀ (H':Hp) (r e c s:Addr) (es cs:List Str),Same H H'->H' r=some (.tup [.ref e,.ref c,.ref s])->H' e=some (.tup (es.map V.str))->H' c=some (.tup (cs.map V.str))->(∀ z ∈ es,Good z)->(∀ z ∈ cs,Good z)->Q (.ref r) H'
theorem scPair:FnScope ["cells","seed","most","elder","copy","steps","cell","left","lost","words"] ["cells","seed","most"] (defScope sPair):=⟨rfl,rfl,rfl,by decide +kernel,rfl,by decide +kernel,by decide +kernel⟩
theorem int_at {ns:List Int} {i:Nat} {y:V} (hi:(ns.map V.int)[i]?=some y):∃ n,ns[i]?=some n/\y=.int n:=by
 rw [List.getElem?_map] at hi
 cases e:ns[i]? with
 | none=>rw [e] at hi;cases hi
 | some t=>rw [e] at hi;exact ⟨t,rfl,(Option.some.inj hi).symm⟩
theorem ok_pair {f gS gE gW gL:Addr} {fd dS dE dW dL:FuncData} (F:Fun K "_law_pair" "_law_pair" sPair f fd) (DS:Dfn K mg "_law_stir" sStir gS dS ["cell"]) (DE:Dfn K mg "_law_eye" sEye gE dE ["elder","left","seed","most"]) (DW:Dfn K mg "_law_word" sWord gW dW ["seed","code"]) (DL:Dfn K mg "_law_slip" sSlip gL dL ["elder","copy","steps","left","words"])
  (mlen:mg "len" = none) (mrange:mg "range" = none) (mmax:mg "max" = none) (mmin:mg "min" = none) (mtup:mg "tuple" = none):FnOk P w K mg base CX0 3 f fd ["cells","seed","most"] (spPair K):=by
 have GS:FnOk P w K mg base CX0 2 gS dS ["cell"] spStir:=(ok_stir DS.fn).mono (by decide)
 have GE:FnOk P w K mg base CX0 2 gE dE ["elder","left","seed","most"] (spEye K):=ok_eye DE.fn DW mlen mrange mmax mmin
 have GW:FnOk P w K mg base CX0 2 gW dW ["seed","code"] spWord:=(ok_word DW.fn mrange).mono (by decide)
 have GL:FnOk P w K mg base CX0 2 gL dL ["elder","copy","steps","left","words"] (spSlip K):=(ok_slip DL.fn).mono (by decide)
 refine F.ok scPair (fun vs H Q E h=>?_) (fun cdv A outer s H vs Q E hr h=>?_)
 ·obtain ⟨lc,ns,a,b,rfl,_⟩:=h
  rfl
 ·obtain ⟨lc,ns,a,b,rfl,hc,hb,hn,q⟩:=h
  let tG:TS:=fun D σ H1=>∃ (lE lC lS:Addr) (es cs:List Str) (ss:List V) (m l:Int) (v8 v9:Option V),σ=[some (.ref lc),some (.int a),some (.int b),some (.ref lE),some (.ref lC),some (.ref lS),some (.int m),some (.int l),v8,v9]/\Tri H1 H1 lE lC lS es cs ss/\(∀ z ∈ es,Good z)/\(∀ z ∈ cs,Good z)/\es.length<=9000/\cs.length<=9000/\ss.length<=9000 ∧
   ∀ (H':Hp) (es' cs':List Str) (ss':List V) (v9':Option V),Tri H1 H' lE lC lS es' cs' ss'->(∀ z ∈ es',Good z)->(∀ z ∈ cs',Good z)->es'.length<=es.length+2->cs'.length<=cs.length+2->ss'.length<=ss.length+1->D.nx [some (.ref lc),some (.int a),some (.int b),some (.ref lE),some (.ref lC),some (.ref lS),some (.int m),some (.int l),v8,v9'] H'
  refine ⟨_,pss_cons (ps_set (i:=3) scPair.nd rfl (Or.inl rfl) (pe_lst pa_nil))
   (pss_cons (ps_set (i:=4) scPair.nd rfl (Or.inl rfl) (pe_lst pa_nil))
   (pss_cons (ps_set (i:=5) scPair.nd rfl (Or.inl rfl) (pe_lst pa_nil))
   (pss_cons (ps_for PassesOwn.never rfl (pi_list (pv 0)) (pg_name (i:=6) scPair.nd rfl (Or.inl rfl)) (pss_cons (ps_set (i:=7) scPair.nd rfl (Or.inl rfl) (pe_call GS hr (by rfl) DS.at_ DS.fn.kp DS.bn .nil pass0 (pa_cons (pv 6) pa_nil)))
    (pss_one (ps_if (pw_and (pt_cmpR op_eq (pe_op op_mod (pv 7) pe_int) pe_int (nomark _)) (pw_and1 (pt_cmpR (op_neS hr.units) (pv 3) (pe_lst pa_nil) (nomark _)))).pt (pss_cons (ps_set (i:=8) scPair.nd rfl (Or.inl rfl) (pe_call GE hr (by rfl) DE.at_ DE.fn.kp DE.bn .nil pass0 (pa_cons (pv 3) (pa_cons (pv 7) (pa_cons (pv 1) (pa_cons (pv 2) pa_nil))))))
   (pss_cons (ps_expr (pe_bm PySem.F.plainAttrs_list PySem.F.slot_list_extend PySem.F.type_list_extend mt_extend (pv 3) (pa_cons (pv 8) pa_nil)))
   (pss_one (ps_expr (pe_bm PySem.F.plainAttrs_list PySem.F.slot_list_append PySem.F.type_list_append mt_append (pv 5) (pa_cons (pe_tup (pa_cons pe_str (pa_cons (pe_callB call_len_seq (by rfl) mlen PySem.boot_len (pa_cons (pv 8) pa_nil)) pa_nil))) pa_nil)))))) (pss_as tG (pss_cons (ps_set (i:=9) scPair.nd rfl (Or.inl rfl) (pe_lst (pa_cons (pe_call GW hr (by rfl) DW.at_ DW.fn.kp DW.bn .nil pass0 (pa_cons (pv 1) (pa_cons (pe_op op_mod (pe_op op_fdiv (pv 7) pe_int) pe_int) pa_nil))) (pa_cons (pe_call GW hr (by rfl) DW.at_ DW.fn.kp DW.bn .nil pass0 (pa_cons (pv 1) (pa_cons (pe_op op_mod (pe_op op_fdiv (pv 7) pe_int) pe_int) pa_nil))) pa_nil)))) (pss_one (ps_expr (pe_call GL hr (by rfl) DL.at_ DL.fn.kp DL.bn .nil pass0 (pa_cons (pv 3) (pa_cons (pv 4) (pa_cons (pv 5) (pa_cons (pv 7) (pa_cons (pv 9) pa_nil))))))))) (by
   rintro D σ H1 ⟨lE,lC,lS,es,cs,ss,m,l,v8,v9,rfl,T,ge,gc,le,lcl,lsl,fin⟩
   refine ⟨_,rfl,_,rfl,_,_,rfl,rfl,⟨by decide,by decide⟩,_,_,rfl,rfl,(by show (0:Int) < 10;decide),_,_,rfl,fun x hx=>?_⟩
   refine ⟨_,rfl,_,rfl,_,_,rfl,rfl,⟨by decide,by decide⟩,_,_,rfl,rfl,(by show (0:Int) < 10;decide),_,_,rfl,fun y hy=>?_⟩
   refine ⟨few (by show 2<=_;omega),fun lw hlw=>?_⟩
   have Tw:=T.nw (o:=.lst [.str x,.str y]) hlw
   refine ⟨_,rfl,_,rfl,_,rfl,_,rfl,_,rfl,lE,lC,lS,lw,es,cs,ss,_,x,y,rfl,Tw.self,upd_same,hx,hy,ge,gc,by omega,by omega,by omega,fun H' es' cs' ss' T' ge' gc' l1 l2 l3=>?_⟩
   exact fin H' es' cs' ss' _ (Tw.to T') ge' gc' l1 l2 l3))))))
   (pss_one (ps_ret (pe_tup (pa_cons (pe_callTy call_tuple_of (by rfl) mtup boot_tuple (pa_cons (pv 3) pa_nil)) (pa_cons (pe_callTy call_tuple_of (by rfl) mtup boot_tuple (pa_cons (pv 4) pa_nil)) (pa_cons (pe_callTy call_tuple_of (by rfl) mtup boot_tuple (pa_cons (pv 5) pa_nil)) pa_nil))))))))),?_⟩
  refine ⟨Nat.zero_le _,fun lE hE=>?_⟩
  refine ⟨Nat.zero_le _,fun lC hC=>?_⟩
  refine ⟨Nat.zero_le _,fun lS hS=>?_⟩
  obtain ⟨nCE,hC'⟩:=freeNe hC
  obtain ⟨nSC,hS'⟩:=freeNe hS
  obtain ⟨nSE,hS''⟩:=freeNe hS'
  have S0:=((same_upd (o:=.lst []) hE).trans (same_upd (o:=.lst []) hC)).trans (same_upd (o:=.lst []) hS)
  have T0:Tri (upd (upd (upd H lE (.lst [])) lC (.lst [])) lS (.lst [])) (upd (upd (upd H lE (.lst [])) lC (.lst [])) lS (.lst [])) lE lC lS [] [] []:=
   ⟨fun _ _ _ _ _ h=>h,same_upd hS _ _ (same_upd hC _ _ upd_same),same_upd hS _ _ upd_same,upd_same,Ne.symm nCE,Ne.symm nSE,Ne.symm nSC⟩
  generalize hH0:upd (upd (upd H lE (.lst [])) lC (.lst [])) lS (.lst [])=H0 at S0 T0
  have sm:∀ {H2:Hp} {es cs:List Str} {ss:List V},Tri H0 H2 lE lC lS es cs ss->Same H H2:=fun t=>t.same S0 hE hC' hS''
  refine ⟨_,rfl,lc,rfl,⟨_,S0.seq hc⟩,for_list (K:=K) (a:=lc) (xs:=ns.map V.int) (fun i σ H2=>∃ (es cs:List Str) (ss:List V) (v6 v7 v8 v9:Option V),σ=[some (.ref lc),some (.int a),some (.int b),some (.ref lE),some (.ref lC),some (.ref lS),v6,v7,v8,v9]/\Tri H0 H2 lE lC lS es cs ss/\(∀ z ∈ es,Good z)/\(∀ z ∈ cs,Good z)/\es.length<=12 * i/\cs.length<=2 * i/\ss.length<=i)
   ⟨[],[],[],none,none,none,none,rfl,T0,(fun _ z=>nomatch z),(fun _ z=>nomatch z),Nat.le_refl _,Nat.le_refl _,Nat.le_refl _⟩ (fun i σ H2 _ ⟨_,_,_,_,_,_,_,_,T,_⟩=>(sm T).seq hc) ?_ ?_⟩
  ·rintro i y σ H2 hi ⟨es,cs,ss,v6,v7,v8,v9,rfl,T,ge,gc,le,lcl,lsl⟩
   obtain ⟨n,hni,rfl⟩:=int_at hi
   have hil:i < ns.length:=(List.getElem?_eq_some_iff.mp hni).1
   refine ⟨_,rfl,n,rfl,hb n (List.mem_of_getElem? hni),fun l=>?_⟩
   have other:∀ {H3:Hp},Tri H0 H3 lE lC lS es cs ss->∃ (lE' lC' lS':Addr) (es0 cs0:List Str) (ss0:List V) (m l':Int) (v8' v9':Option V),[some (V.ref lc),some (V.int a),some (V.int b),some (V.ref lE),some (V.ref lC),some (V.ref lS),some (V.int n),some (V.int l),v8,v9]=[some (.ref lc),some (.int a),some (.int b),some (.ref lE'),some (.ref lC'),some (.ref lS'),some (.int m),some (.int l'),v8',v9']/\Tri H3 H3 lE' lC' lS' es0 cs0 ss0/\(∀ z ∈ es0,Good z)/\(∀ z ∈ cs0,Good z)/\es0.length<=9000/\cs0.length<=9000/\ss0.length<=9000 ∧
     ∀ (H':Hp) (es' cs':List Str) (ss':List V) (v9'':Option V),Tri H3 H' lE' lC' lS' es' cs' ss'->(∀ z ∈ es',Good z)->(∀ z ∈ cs',Good z)->es'.length<=es0.length+2->cs'.length<=cs0.length+2->ss'.length<=ss0.length+1 →
      ∃ (es1 cs1:List Str) (ss1:List V) (v6 v7 v8 v9:Option V),[some (V.ref lc),some (V.int a),some (V.int b),some (V.ref lE'),some (V.ref lC'),some (V.ref lS'),some (V.int m),some (V.int l'),v8',v9'']=[some (.ref lc),some (.int a),some (.int b),some (.ref lE),some (.ref lC),some (.ref lS),v6,v7,v8,v9]/\Tri H0 H' lE lC lS es1 cs1 ss1/\(∀ z ∈ es1,Good z)/\(∀ z ∈ cs1,Good z)/\es1.length<=12 * (i+1)/\cs1.length<=2 * (i+1)/\ss1.length<=i+1:=fun {H3} T3=>
    ⟨lE,lC,lS,es,cs,ss,n,l,v8,v9,rfl,T3.self,ge,gc,by omega,by omega,by omega,fun H' es' cs' ss' v9'' T' ge' gc' l1 l2 l3=>⟨es',cs',ss',_,_,_,_,rfl,T3.to T',ge',gc',by omega,by omega,by omega⟩⟩
   refine ⟨_,rfl,_,_,rfl,rfl,(by show (0:Int) < 9;decide),rfl,_,rfl,?_⟩
   refine ite2 (fun _=>?_) (fun _=>iteF (other T))
   refine ⟨_,rfl,Nat.zero_le _,fun l0 hl0=>?_⟩
   have T2:=T.nw (o:=.lst []) hl0
   refine ⟨0,decide (es=[]),by decide,EqS.strs (ys:=[]) (.inl ⟨SqL.of T2.e,SqL.of upd_same⟩),_,rfl,?_⟩
   by_cases h0:es=[]
   ·rw [decide_eq_true h0]
    exact iteF (other T2)
   ·rw [decide_eq_false h0]
    refine iteT ⟨_,rfl,_,rfl,_,rfl,_,rfl,lE,es,l,a,b,rfl,T2.e,h0,ge,by omega,fun H3 lw ws S3 hlwn hlw gw w1 w2=>?_⟩
    have T3:=T2.sm S3
    refine ⟨_,rfl,.inl ⟨rfl,_,SqL.of T3.e⟩,_,rfl,lE,lw,_,_,rfl,rfl,T3.e,hlw,(by rw [List.length_map,List.length_map];exact few (by omega)),?_⟩
    have T4:=T3.ne (es++ws) (xs:=es.map V.str++ws.map V.str) (by rw [List.map_append])
    have nw:lw ≠ lE:=fun e=>by rw [e,T2.e] at hlwn;cases hlwn
    have hlw4:upd H3 lE (.lst (es.map V.str++ws.map V.str)) lw=some (.lst (ws.map V.str)):=by rw [upd_ne nw];exact hlw
    refine ⟨_,rfl,.inl ⟨rfl,_,SqL.of T4.s⟩,_,rfl,lw,_,rfl,.inl (SqL.of hlw4),few (by show 2<=_;omega),fun t ht=>⟨lS,_,_,rfl,rfl,(T4.nw ht).s,fewer (by omega),?_⟩⟩
    exact ⟨es++ws,cs,_,_,_,_,_,rfl,(T4.nw ht).ns _,good_app ge gw,gc,by rw [List.length_append];omega,by omega,by rw [List.length_append];show _+1<=_;omega⟩
  ·rintro σ H2 ⟨es,cs,ss,v6,v7,v8,v9,rfl,T,ge,gc,le,lcl,lsl⟩
   refine ⟨_,rfl,lE,_,rfl,.inl ⟨SqL.of T.e,fun e he=>?_⟩⟩
   have S1:=same_upd (o:=.tup (es.map V.str)) he
   refine ⟨_,rfl,lC,_,rfl,.inl ⟨SqL.of (S1 _ _ T.c),fun c hc'=>?_⟩⟩
   have S2:=same_upd (o:=.tup (cs.map V.str)) hc'
   refine ⟨_,rfl,lS,_,rfl,.inl ⟨SqL.of (S2 _ _ (S1 _ _ T.s)),fun s' hs'=>?_⟩⟩
   have S3:=same_upd (o:=.tup ss) hs'
   refine ⟨few (by show 3<=_;omega),fun r hr'=>?_⟩
   have S4:=same_upd (o:=.tup [.ref e,.ref c,.ref s']) hr'
   exact q _ r e c s' es cs (((((sm T).trans S1).trans S2).trans S3).trans S4) upd_same (S4 _ _ (S3 _ _ (S2 _ _ upd_same))) (S4 _ _ (S3 _ _ upd_same)) ge gc
def PairOk (K:PySem.W.Frag) (H:Hp) (a:Addr):Prop:=∃ (e c:Addr) (es cs:List Str),H a=some (.tup [.ref e,.ref c])/\SqT K H e (es.map V.str)/\SqT K H c (cs.map V.str)/\(∀ z ∈ es,Good z)/\(∀ z ∈ cs,Good z)/\es.length<=40/\cs.length<=40
theorem sqT_l {H:Hp} {a l:Addr} {xs ys:List V} {o:HO} (h:SqT K H a xs) (hl:H l=some (.lst ys)):SqT K (upd H l o) a xs:=by
 rcases h with (h | ⟨o',h⟩) | h
 ·have n:a ≠ l:=fun e=>by rw [e,hl] at h;cases h
  exact .inl (.inl (by rw [upd_ne n];exact h))
 ·have n:a ≠ l:=fun e=>by rw [e,hl] at h;cases h
  exact .inl (.inr ⟨o',by rw [upd_ne n];exact h⟩)
 ·exact .inr h
theorem PairOk.mono {H H':Hp} {a:Addr} (h:PairOk K H a) (S:Same H H'):PairOk K H' a:=by
 obtain ⟨e,c,es,cs,h1,h2,h3,h4⟩:=h
 exact ⟨e,c,es,cs,S _ _ h1,sameT S h2,sameT S h3,h4⟩
theorem PairOk.set {H:Hp} {a l:Addr} {ys:List V} {o:HO} (h:PairOk K H a) (hl:H l=some (.lst ys)):PairOk K (upd H l o) a:=by
 obtain ⟨e,c,es,cs,h1,h2,h3,h4⟩:=h
 have n:a ≠ l:=fun z=>by rw [z,hl] at h1;cases h1
 exact ⟨e,c,es,cs,by rw [upd_ne n];exact h1,sqT_l h2 hl,sqT_l h3 hl,h4⟩
theorem rng_facts:∀ n,n < 64->∀ m,m < 8->0 < m->Builtin.Range.small 0 ((n:Nat):Int) ((m:Nat):Int)=true/\Builtin.Range.rangeSize 0 ((n:Nat):Int) ((m:Nat):Int)=(((n+m - 1) / m:Nat):Int):=by decide +kernel
theorem good_take {xs:List Str} (h:∀ z ∈ xs,Good z) (n:Nat):∀ z ∈ xs.take n,Good z:=fun z hz=>h z (List.mem_of_mem_take hz)
theorem take_small (xs:List Str) {n:Nat} (h:n<=40):(xs.take n).length<=40:=by rw [List.length_take];omega
def spPairs (K:PySem.W.Frag):Sp:=fun vs H Q _=>∃ (a:Addr) (ns:List Int) (m:Nat),vs=[.ref a,.int (m:Nat)]/\SqL K H a (ns.map V.int)/\(∀ n ∈ ns,Builtin.Int.intBits n<=1048576)/\ns.length<=63/\(m=3\/m=4\/m=5) ∧
 ∀ (H':Hp) (l:Addr) (as:List Addr),Same H H'->H' l=some (.lst (as.map V.ref))->(∀ x ∈ as,PairOk K H' x)->as.length<=100->Q (.ref l) H'
theorem scPairs:FnScope ["script","many","seed","cells","rows","k","pair","cut"] ["script","many"] (defScope sPairs):=⟨rfl,rfl,rfl,by decide +kernel,rfl,by decide +kernel,by decide +kernel⟩
theorem ok_pairs {f gC gS gP:Addr} {fd dC dS dP:FuncData} (F:Fun K "_law_pairs" "_law_pairs" sPairs f fd) (DC:Dfn K mg "_law_cell_at" sCell gC dC ["script","k"]) (DS:Dfn K mg "_law_stir" sStir gS dS ["cell"]) (DP:Dfn K mg "_law_pair" sPair gP dP ["cells","seed","most"]) (GP:FnOk P w K mg base CX0 3 gP dP ["cells","seed","most"] (spPair K))
  (mlen:mg "len" = none) (mrange:mg "range" = none):FnOk P w K mg base CX0 4 f fd ["script","many"] (spPairs K):=by
 have GC:FnOk P w K mg base CX0 3 gC dC ["script","k"] (spCell K):=(ok_cell DC.fn mlen).mono (by decide)
 have GS:FnOk P w K mg base CX0 3 gS dS ["cell"] spStir:=(ok_stir DS.fn).mono (by decide)
 refine F.ok scPairs (fun vs H Q E h=>?_) (fun cdv A outer s H vs Q E hr h=>?_)
 ·obtain ⟨a,ns,m,rfl,_⟩:=h
  rfl
 ·obtain ⟨a,ns,m,rfl,hS,hb,hn,hm,q⟩:=h
  refine ⟨_,pss_cons (ps_set (i:=2) scPairs.nd rfl (Or.inl rfl) (pe_call GS hr (by rfl) DS.at_ DS.fn.kp DS.bn .nil pass0 (pa_cons (pe_call GC hr (by rfl) DC.at_ DC.fn.kp DC.bn .nil pass0 (pa_cons (pv 0) (pa_cons pe_int pa_nil))) pa_nil)))
   (pss_cons (ps_set (i:=3) scPairs.nd rfl (Or.inl rfl) (pe_slice sl_lst (pv 0) (po_some pe_int) po_none))
   (pss_cons (ps_set (i:=4) scPairs.nd rfl (Or.inl rfl) (pe_lst (pa_cons (pe_tup (pa_cons (pe_tup pa_nil) (pa_cons (pe_tup pa_nil) pa_nil))) pa_nil)))
   (pss_cons (ps_for PassesOwn.never rfl (pi_range3 (by rfl) mrange (pa_cons pe_int (pa_cons (pe_callB call_len_seq (by rfl) mlen PySem.boot_len (pa_cons (pv 3) pa_nil)) (pa_cons (pv 1) pa_nil)))) (pg_name (i:=5) scPairs.nd rfl (Or.inl rfl)) (pss_cons (ps_set (i:=6) scPairs.nd rfl (Or.inl rfl) (pe_call GP hr (by rfl) DP.at_ DP.fn.kp DP.bn .nil pass0 (pa_cons (pe_slice sl_lst (pv 3) (po_some (pv 5)) (po_some (pe_op op_add (pv 5) (pv 1)))) (pa_cons (pv 2) (pa_cons pe_int pa_nil)))))
   (pss_cons (ps_expr (pe_bm PySem.F.plainAttrs_list PySem.F.slot_list_append PySem.F.type_list_append mt_append (pv 4) (pa_cons (pe_tup (pa_cons (pe_slice sl_tupA (pe_ix ix_tup (pv 6) pe_int (fun _ _=>rfl)) po_none (po_some pe_int)) (pa_cons (pe_slice sl_tupA (pe_ix ix_tup (pv 6) pe_int (fun _ _=>rfl)) po_none (po_some pe_int)) pa_nil))) pa_nil)))
   (pss_one (ps_if (pt_cmpR op_eq (pe_op op_mod (pe_ix ix_list (pv 3) (pv 5) (fun _ _=>rfl)) pe_int) pe_int (nomark _)) (pss_one (ps_asg (pe_tup (pa_cons (pe_slice sl_tupA (pe_ix ix_tup (pv 6) pe_int (fun _ _=>rfl)) po_none (po_some pe_int)) (pa_cons (pe_slice sl_tupA (pe_rev (pe_ix ix_tup (pv 6) pe_int (fun _ _=>rfl)) (pe_un un_neg pe_int)) po_none (po_some pe_int)) pa_nil))) (pg_sub (pv 4) (pe_un un_neg pe_int) set_list))) pss_nil)))))
   (pss_cons (ps_mid (ps_if (pt_cmpR op_eq (pe_op op_mod (pe_call GC hr (by rfl) DC.at_ DC.fn.kp DC.bn .nil pass0 (pa_cons (pv 0) (pa_cons pe_int pa_nil))) pe_int) pe_int (nomark _)) (pss_cons (ps_set (i:=6) scPairs.nd rfl (Or.inl rfl) (pe_call GP hr (by rfl) DP.at_ DP.fn.kp DP.bn .nil pass0 (pa_cons (pe_slice sl_lst (pv 3) po_none (po_some pe_int)) (pa_cons (pv 2) (pa_cons pe_int pa_nil)))))
   (pss_cons (ps_set (i:=7) scPairs.nd rfl (Or.inl rfl) (pe_ix ix_list (pe_lst (pa_cons (pe_tup (pa_cons pe_int (pa_cons pe_int pa_nil))) (pa_cons (pe_tup (pa_cons pe_int (pa_cons pe_int pa_nil))) pa_nil))) (pe_op op_mod (pe_op op_fdiv (pe_call GC hr (by rfl) DC.at_ DC.fn.kp DC.bn .nil pass0 (pa_cons (pv 0) (pa_cons pe_int pa_nil))) pe_int) pe_int) (fun _ _=>rfl)))
   (pss_one (ps_expr (pe_bm PySem.F.plainAttrs_list PySem.F.slot_list_append PySem.F.type_list_append mt_append (pv 4) (pa_cons (pe_tup (pa_cons (pe_slice sl_tupA (pe_ix ix_tup (pv 6) pe_int (fun _ _=>rfl)) po_none (po_some (pe_ix ix_tup (pv 7) pe_int (fun _ _=>rfl)))) (pa_cons (pe_slice sl_tupA (pe_ix ix_tup (pv 6) pe_int (fun _ _=>rfl)) po_none (po_some (pe_ix ix_tup (pv 7) pe_int (fun _ _=>rfl)))) pa_nil))) pa_nil)))))) pss_nil))
   (pss_one (ps_ret (pv 4))))))),?_⟩
  have z2:(2:Nat)<=sizeLine:=few (by omega)
  refine ⟨_,rfl,a,ns,_,rfl,hS,by decide,_,rfl,bits_cell hb _,fun seed=>?_⟩
  obtain ⟨ms,em,hml,hmm⟩:=cut_any ns (some 2) none
  refine ⟨_,rfl,_,rfl,a,_,rfl,hS,fun c3 hc3=>?_⟩
  rw [em]
  have S1:=same_upd (o:=.lst (ms.map V.int)) hc3
  have k3:upd H c3 (.lst (ms.map V.int)) c3=some (.lst (ms.map V.int)):=upd_same
  generalize hH1:upd H c3 (.lst (ms.map V.int))=H1 at S1 k3
  refine ⟨Nat.zero_le _,fun t1 ht1=>⟨Nat.zero_le _,fun t2 ht2=>⟨z2,fun t3 ht3=>⟨few (by show 1<=_;omega),fun l4 hl4=>?_⟩⟩⟩⟩
  have U1:=same_upd (o:=.tup []) ht1
  have U2:=same_upd (o:=.tup []) ht2
  have U3:=same_upd (o:=.tup [.ref t1,.ref t2]) ht3
  have U4:=same_upd (o:=.lst [.ref t3]) hl4
  have U:=((U1.trans U2).trans U3).trans U4
  have P0:PairOk K (upd (upd (upd (upd H1 t1 (.tup [])) t2 (.tup [])) t3 (.tup [.ref t1,.ref t2])) l4 (.lst [.ref t3])) t3:=
   ⟨t1,t2,[],[],U4 _ _ upd_same,SqT.of (U4 _ _ (U3 _ _ (U2 _ _ upd_same))),SqT.of (U4 _ _ (U3 _ _ upd_same)),(fun _ z=>nomatch z),(fun _ z=>nomatch z),Nat.zero_le _,Nat.zero_le _⟩
  have l0:upd (upd (upd (upd H1 t1 (.tup [])) t2 (.tup [])) t3 (.tup [.ref t1,.ref t2])) l4 (.lst [.ref t3]) l4=some (.lst ([t3].map V.ref)):=upd_same
  have hl4H:H1 l4=none:=((U1.trans U2).trans U3).free hl4
  have n43:l4 ≠ c3:=fun e=>by rw [e,k3] at hl4H;cases hl4H
  generalize hH2:upd (upd (upd (upd H1 t1 (.tup [])) t2 (.tup [])) t3 (.tup [.ref t1,.ref t2])) l4 (.lst [.ref t3])=H2 at U P0 l0
  have hlen:(ms.map V.int).length=ms.length:=List.length_map ..
  have hmb:0 < m/\m < 8:=by omega
  have rf:=rng_facts ms.length (by omega) m hmb.2 hmb.1
  refine ⟨_,rfl,c3,_,rfl,.inl (SqL.of (U _ _ k3)),_,rfl,?_⟩
  rw [hlen]
  refine ⟨0,_,_,(ms.length+m - 1) / m,rfl,by omega,by omega,rf.1,rf.2,?_⟩
  have lens:∀ (as:List Addr),as.length<=90->(as.map V.ref).length < sizeLine:=fun as h=>by rw [List.length_map];exact fewer (by omega)
  have hcnt:(ms.length+m - 1) / m<=70:=Nat.le_trans (Nat.div_le_self _ _) (by omega)
  refine for_range3 (fun i σ H'=>∃ (as:List Addr) (v5 v6:Option V),σ=[some (.ref a),some (.int (m:Nat)),some (.int seed),some (.ref c3),some (.ref l4),v5,v6,none]/\H' l4=some (.lst (as.map V.ref))/\(∀ x ∈ as,PairOk K H' x)/\as.length=i+1/\Same H1 H') ⟨[t3],none,none,rfl,l0,fun x hx=>by rw [List.mem_singleton.mp hx];exact P0,rfl,U⟩ ?_ ?_
  ·rintro i σ H3 hi ⟨as,v5,v6,rfl,h4,hP,hal,S3⟩
   have hil:i < ms.length:=Nat.lt_of_lt_of_le hi (by rcases hm with e | e | e <;> (subst e;omega))
   have hkl:i * m < ms.length:=by rcases hm with e | e | e <;> (subst e;omega)
   have ek:(0:Int)+((i:Nat):Int) * ((m:Nat):Int)=((i * m:Nat):Int):=by rw [Int.zero_add,<-Int.natCast_mul]
   rw [ek]
   generalize hk:i * m=k at hkl
   obtain ⟨x1,ex1,hx1,hxm⟩:=cut_any ms (some ((k:Nat):Int)) (some (((k:Nat):Int)+((m:Nat):Int)))
   refine ⟨_,rfl,_,rfl,_,rfl,_,rfl,_,rfl,_,_,rfl,rfl,_,rfl,c3,_,rfl,SqL.of (S3 _ _ k3),fun c5 hc5=>?_⟩
   rw [ex1]
   have V1:=same_upd (o:=.lst (x1.map V.int)) hc5
   refine ⟨_,rfl,c5,x1,_,_,rfl,SqL.of upd_same,fun y hy=>hb y (hmm y (hxm y hy)),by omega,?_⟩
   intro H5 r e c s es cs S5 hr5 he5 hc5' ge gc
   have W5:=V1.trans S5
   have k4:=W5 _ _ h4
   refine ⟨_,rfl,.inl ⟨rfl,_,SqL.of k4⟩,_,rfl,r,_,_,_,rfl,rfl,SqT.of hr5,rfl,_,rfl,cutTup (SqT.of he5) fun p1 H6 S6 hp1=>?_⟩
   rw [show cutV (es.map V.str) none (some 7)=(es.take 7).map V.str from cutTake V.str es 7] at hp1
   refine ⟨_,rfl,r,_,_,_,rfl,rfl,SqT.of (S6 _ _ hr5),rfl,_,rfl,cutTup (SqT.of (S6 _ _ hc5')) fun p2 H7 S7 hp2=>?_⟩
   rw [show cutV (cs.map V.str) none (some 7)=(cs.take 7).map V.str from cutTake V.str cs 7] at hp2
   refine ⟨z2,fun a8 ha8=>?_⟩
   have S8:=same_upd (o:=.tup [.ref p1,.ref p2]) ha8
   have W8:=((W5.trans S6).trans S7).trans S8
   have k8:=W8 _ _ h4
   have a8':upd H7 a8 (.tup [.ref p1,.ref p2]) a8=some (.tup [.ref p1,.ref p2]):=upd_same
   have q1:=sameT S8 (sameT S7 hp1)
   have q2:=sameT S8 hp2
   have r8:=S8 _ _ (S7 _ _ (S6 _ _ hr5))
   have e8:=S8 _ _ (S7 _ _ (S6 _ _ he5))
   have c8:=S8 _ _ (S7 _ _ (S6 _ _ hc5'))
   generalize hH8:upd H7 a8 (.tup [.ref p1,.ref p2])=H8 at S8 W8 k8 a8' q1 q2 r8 e8 c8
   have P8:PairOk K H8 a8:=⟨p1,p2,es.take 7,cs.take 7,a8',q1,q2,good_take ge 7,good_take gc 7,take_small es (by decide),take_small cs (by decide)⟩
   refine ⟨l4,_,_,rfl,rfl,k8,lens as (by omega),?_⟩
   have n9:upd H8 l4 (.lst (as.map V.ref++[.ref a8])) l4=some (.lst (as.map V.ref++[.ref a8])):=upd_same
   have P9:∀ x ∈ as,PairOk K (upd H8 l4 (.lst (as.map V.ref++[.ref a8]))) x:=fun x hx=>((hP x hx).mono W8).set k8
   have P9':=P8.set (o:=.lst (as.map V.ref++[.ref a8])) k8
   have S9:=same_to (o:=.lst (as.map V.ref++[.ref a8])) (S3.trans W8) hl4H
   have nr:∀ {x:Addr} {ys:List V},H8 x=some (.tup ys)->upd H8 l4 (.lst (as.map V.ref++[.ref a8])) x=some (.tup ys):=fun {x ys} h=>by
    have:x ≠ l4:=fun z=>by rw [z,k8] at h;cases h
    rw [upd_ne this];exact h
   have r9:=nr r8
   have e9:=nr e8
   have c9:=nr c8
   generalize hH9:upd H8 l4 (.lst (as.map V.ref++[.ref a8]))=H9 at n9 P9 P9' S9 r9 e9 c9
   have atk:atI (ms.map V.int) ((k:Nat):Int)=some (.int ms[k]):=atI_nat (by rw [List.getElem?_map,List.getElem?_eq_getElem hkl];rfl)
   refine ⟨_,rfl,_,rfl,c3,_,_,_,rfl,rfl,SqL.of (S9 _ _ k3),atk,_,_,rfl,rfl,(by show (0:Int) < 3;decide),rfl,_,rfl,?_⟩
   refine ite2 (fun _=>?_) (fun _=>⟨as++[a8],_,_,rfl,by rw [n9,List.map_append];rfl,fun x hx=>?_,by rw [List.length_append,hal];rfl,S9⟩)
   ·refine ⟨_,rfl,r,_,_,_,rfl,rfl,SqT.of r9,rfl,_,rfl,cutTup (SqT.of e9) fun p3 H10 S10 hp3=>?_⟩
    rw [show cutV (es.map V.str) none (some 7)=(es.take 7).map V.str from cutTake V.str es 7] at hp3
    refine ⟨_,rfl,r,_,_,_,rfl,rfl,SqT.of (S10 _ _ r9),rfl,_,rfl,rfl,c,_,rfl,SqT.of (S10 _ _ c9),fun pr hpr=>?_⟩
    rw [<-List.map_reverse]
    have S11:=same_upd (o:=.tup (cs.reverse.map V.str)) hpr
    refine ⟨_,rfl,cutTup (SqT.of upd_same) fun p4 H12 S12 hp4=>?_⟩
    rw [show cutV (cs.reverse.map V.str) none (some 7)=(cs.reverse.take 7).map V.str from cutTake V.str cs.reverse 7] at hp4
    refine ⟨z2,fun a13 ha13=>?_⟩
    have S13:=same_upd (o:=.tup [.ref p3,.ref p4]) ha13
    have W13:=((S10.trans S11).trans S12).trans S13
    have k13:=W13 _ _ n9
    have P13:PairOk K (upd H12 a13 (.tup [.ref p3,.ref p4])) a13:=⟨p3,p4,es.take 7,cs.reverse.take 7,upd_same,sameT S13 (sameT S12 (sameT S11 hp3)),sameT S13 hp4,good_take ge 7,good_take (fun z hz=>gc z (List.mem_reverse.mp hz)) 7,take_small es (by decide),take_small _ (by decide)⟩
    refine ⟨_,rfl,_,rfl,l4,_,_,as.length,rfl,rfl,k13,(by rw [List.length_append,List.length_map];exact ixN_last _),?_⟩
    have es1:(as.map V.ref++[V.ref a8]).set as.length (V.ref a13)=as.map V.ref++[V.ref a13]:=by
     have:=set_last (as.map V.ref) (V.ref a8) (V.ref a13)
     rw [List.length_map] at this
     exact this
    refine ⟨as++[a13],_,_,rfl,?_,fun x hx=>?_,by rw [List.length_append,hal];rfl,same_to (S9.trans W13) hl4H⟩
    ·rw [upd_same,es1,List.map_append];rfl
    ·rcases List.mem_append.mp hx with hx | hx
     ·exact ((P9 x hx).mono W13).set k13
     ·rw [List.mem_singleton.mp hx];exact P13.set k13
   ·rcases List.mem_append.mp hx with hx | hx
    ·exact P9 x hx
    ·rw [List.mem_singleton.mp hx];exact P9'
  ·rintro σ H3 ⟨as,v5,v6,rfl,h4,hP,hal,S3⟩
   refine ⟨fun σ' H'=>∃ (as:List Addr) (v5 v6 v7:Option V),σ'=[some (.ref a),some (.int (m:Nat)),some (.int seed),some (.ref c3),some (.ref l4),v5,v6,v7]/\H' l4=some (.lst (as.map V.ref))/\(∀ x ∈ as,PairOk K H' x)/\as.length<=100/\Same H1 H',?_,?_⟩
   ·refine ⟨_,rfl,a,ns,_,rfl,(S1.trans S3).seq hS,by decide,_,_,rfl,rfl,(by show (0:Int) < 4;decide),rfl,_,rfl,?_⟩
    refine ite2 (fun _=>?_) (fun _=>⟨as,v5,v6,none,rfl,h4,hP,by omega,S3⟩)
    obtain ⟨x1,ex1,hx1,hxm⟩:=cut_any ms none (some 24)
    refine ⟨_,rfl,_,rfl,c3,_,rfl,SqL.of (S3 _ _ k3),fun c5 hc5=>?_⟩
    rw [ex1]
    have V1:=same_upd (o:=.lst (x1.map V.int)) hc5
    refine ⟨_,rfl,c5,x1,_,_,rfl,SqL.of upd_same,fun y hy=>hb y (hmm y (hxm y hy)),by omega,?_⟩
    intro H5 r e c s es cs S5 hr5 he5 hc5' ge gc
    have W5:=V1.trans S5
    refine ⟨z2,fun u1 hu1=>⟨z2,fun u2 hu2=>⟨z2,fun u3 hu3=>?_⟩⟩⟩
    have T1:=same_upd (o:=.tup [.int 40,.int 3]) hu1
    have T2:=same_upd (o:=.tup [.int 3,.int 40]) hu2
    have T3:=same_upd (o:=.lst [.ref u1,.ref u2]) hu3
    have W6:=((W5.trans T1).trans T2).trans T3
    have T6:=(T1.trans T2).trans T3
    have g1:=T3 _ _ (T2 _ _ (upd_same (H:=H5) (a:=u1) (o:=.tup [.int 40,.int 3])))
    have g2:=T3 _ _ (upd_same (H:=upd H5 u1 (.tup [.int 40,.int 3])) (a:=u2) (o:=.tup [.int 3,.int 40]))
    have g3:upd (upd (upd H5 u1 (.tup [.int 40,.int 3])) u2 (.tup [.int 3,.int 40])) u3 (.lst [.ref u1,.ref u2]) u3=some (.lst [.ref u1,.ref u2]):=upd_same
    generalize hH6:upd (upd (upd H5 u1 (.tup [.int 40,.int 3])) u2 (.tup [.int 3,.int 40])) u3 (.lst [.ref u1,.ref u2])=H6 at W6 T6 g1 g2 g3
    obtain ⟨uc,x,y,ec,gc',hxy⟩:∃ (uc:Addr) (x y:Nat),atI [V.ref u1,V.ref u2] (cellD ns 0 / 4 % 2)=some (.ref uc)/\H6 uc=some (.tup [.int ((x:Nat):Int),.int ((y:Nat):Int)])/\x<=40/\y<=40:=by
     have h0:=Int.emod_nonneg (cellD ns 0 / 4) (show (2:Int) ≠ 0 by decide)
     have h1:=Int.emod_lt_of_pos (cellD ns 0 / 4) (show (0:Int) < 2 by decide)
     have:cellD ns 0 / 4 % 2=0\/cellD ns 0 / 4 % 2=1:=by omega
     rcases this with e | e <;> rw [e]
     ·exact ⟨u1,40,3,rfl,g1,by decide,by decide⟩
     ·exact ⟨u2,3,40,rfl,g2,by decide,by decide⟩
    refine ⟨_,rfl,a,ns,_,rfl,((S1.trans S3).trans W6).seq hS,by decide,_,_,rfl,rfl,⟨by decide,by decide⟩,_,_,rfl,rfl,(by show (0:Int) < 2;decide),u3,_,_,_,rfl,rfl,SqL.of g3,ec,?_⟩
    have k4:=W6 _ _ h4
    have r6:=T6 _ _ hr5
    have e6:=T6 _ _ he5
    have c6:=T6 _ _ hc5'
    refine ⟨_,rfl,.inl ⟨rfl,_,SqL.of k4⟩,_,rfl,r,_,_,_,rfl,rfl,SqT.of r6,rfl,_,rfl,uc,_,_,_,rfl,rfl,SqT.of gc',rfl,_,rfl,cutTup (SqT.of e6) fun p1 H7 S7 hp1=>?_⟩
    rw [cutTake V.str es x] at hp1
    refine ⟨_,rfl,r,_,_,_,rfl,rfl,SqT.of (S7 _ _ r6),rfl,_,rfl,uc,_,_,_,rfl,rfl,SqT.of (S7 _ _ gc'),rfl,_,rfl,cutTup (SqT.of (S7 _ _ c6)) fun p2 H8 S8 hp2=>?_⟩
    rw [cutTake V.str cs y] at hp2
    refine ⟨z2,fun a9 ha9=>?_⟩
    have S9:=same_upd (o:=.tup [.ref p1,.ref p2]) ha9
    have W9:=((W6.trans S7).trans S8).trans S9
    have k9:=W9 _ _ h4
    have P9:PairOk K (upd H8 a9 (.tup [.ref p1,.ref p2])) a9:=⟨p1,p2,es.take x,cs.take y,upd_same,sameT S9 (sameT S8 hp1),sameT S9 hp2,good_take ge x,good_take gc y,take_small es hxy.1,take_small cs hxy.2⟩
    refine ⟨l4,_,_,rfl,rfl,k9,lens as (by omega),as++[a9],_,_,_,rfl,by rw [upd_same,List.map_append];rfl,fun x hx=>?_,by rw [List.length_append];show _+1<=_;omega,same_to (S3.trans W9) hl4H⟩
    rcases List.mem_append.mp hx with hx | hx
    ·exact ((hP x hx).mono W9).set k9
    ·rw [List.mem_singleton.mp hx];exact P9.set k9
   ·rintro σ' H' ⟨as,v5,v6,v7,rfl,h4,hP,hal,S⟩
    exact ⟨_,rfl,q _ l4 as (S1.trans S) h4 hP hal⟩
theorem cut_one (es:List Str) (i:Nat):cutV (es.map V.str) (some ((i:Nat):Int)) (some (((i:Nat):Int)+1))=((es.drop i).take 1).map V.str:=by
 have e:((i:Nat):Int)+1=((i+1:Nat):Int):=by omega
 unfold cutV
 rw [e,HT.sIx_nat,HT.sIx_nat,List.length_map,<-List.map_drop,<-List.map_take]
 congr 1
 by_cases h:i+1<=es.length
 ·rw [Nat.min_eq_left (show i<=es.length by omega),Nat.min_eq_left h,Nat.add_sub_cancel_left]
 ·rw [Nat.min_eq_right (show es.length<=i+1 by omega),List.take_of_length_le (by rw [List.length_drop];omega),List.take_of_length_le (by rw [List.length_drop];omega)]
  by_cases h2:i<=es.length
  ·rw [Nat.min_eq_left h2]
  ·rw [Nat.min_eq_right (by omega),List.drop_of_length_le (Nat.le_refl _),List.drop_of_length_le (by omega)]
theorem one_yes {es:List Str} {i:Nat} (h:i < es.length):(es.drop i).take 1=[gt es i]:=by
 rw [List.drop_eq_getElem_cons h]
 show [es[i]]=_
 unfold gt
 rw [List.getElem?_eq_getElem h];rfl
theorem one_no {es:List Str} {i:Nat} (h:¬ i < es.length):(es.drop i).take 1=[]:=by
 rw [List.drop_of_length_le (by omega)];rfl
theorem two_yes {es:List Str} {i:Nat} (h:i+1 < es.length):(es.drop i).take 2=[gt es i,gt es (i+1)]:=by
 rw [List.drop_eq_getElem_cons (show i < es.length by omega),List.drop_eq_getElem_cons h]
 show [es[i],es[i+1]]=_
 unfold gt
 rw [List.getElem?_eq_getElem (show i < es.length by omega),List.getElem?_eq_getElem h];rfl
theorem two_no {es:List Str} {i:Nat} (h:¬ i+1 < es.length):((es.drop i).take 2).length ≠ 2:=by
 rw [List.length_take,List.length_drop];omega
theorem cut_tail (cs:List Str) (j:Nat) (hj:j<=cs.length):cutV ((cs.take j).map V.str) (some (-1)) none=(if j=0 then [] else [gt cs (j - 1)]).map V.str:=by
 unfold cutV
 have hl:((cs.take j).map V.str).length=j:=by rw [List.length_map,List.length_take];omega
 have e1:HT.sIx ((cs.take j).map V.str).length 0 (some (-1))=((-1:Int)+(j:Int)).toNat:=by
  rw [hl]
  show (if (-1:Int) < 0 then ((-1:Int)+(j:Int)).toNat else min ((-1:Int)).toNat j)=_
  rw [if_pos (by decide)]
 rw [e1,HT.sIx_none,hl,<-List.map_drop,<-List.map_take]
 congr 1
 by_cases h0:j=0
 ·rw [if_pos h0,h0];simp
 ·rw [if_neg h0]
  have e2:((-1:Int)+(j:Int)).toNat=j - 1:=by omega
  rw [e2,show j - (j - 1)=1 by omega,one_yes (by rw [List.length_take];omega)]
  unfold gt
  rw [List.getElem?_take,if_pos (by omega)]
def spLSt (K:PySem.W.Frag):Sp:=fun vs H Q _=>∃ (p q:Addr) (es cs:List Str) (i j:Nat),vs=[.ref p,.ref q,.int (i:Nat),.int (j:Nat)]/\SqT K H p (es.map V.str)/\SqT K H q (cs.map V.str)/\i<=es.length/\j<=cs.length/\es.length<=1000/\(∀ z ∈ cs,Good z) ∧
 ∀ (H':Hp) (l:Addr) (ts:List Addr),Same H H'->H' l=some (.lst (ts.map V.ref))->TupsAt H' ts ((ways es cs i j).map (·.1))->Q (.ref l) H'
theorem scLSteps:FnScope ["elder","copy","i","j","due","word","wanted","two","k"] ["elder","copy","i","j"] (defScope sLSteps):=⟨rfl,rfl,rfl,by decide +kernel,rfl,by decide +kernel,by decide +kernel⟩
theorem step_add {H H2:Hp} {l t:Addr} {ts:List Addr} {sts:List Sk} {st:Sk} (S:Same H H2) (hl:H l=none) (h1:H2 l=some (.lst (ts.map V.ref))) (hT:TupsAt H2 ts sts) (ht:H2 t=none) (ho:okS st) :
  upd H2 t (.tup (stepV st)) l=some (.lst (ts.map V.ref))/\upd (upd H2 t (.tup (stepV st))) l (.lst (ts.map V.ref++[.ref t])) l=some (.lst ((ts++[t]).map V.ref)) ∧
  Same H (upd (upd H2 t (.tup (stepV st))) l (.lst (ts.map V.ref++[.ref t])))/\TupsAt (upd (upd H2 t (.tup (stepV st))) l (.lst (ts.map V.ref++[.ref t]))) (ts++[t]) (sts++[st]):=by
 have S1:=same_upd (o:=.tup (stepV st)) ht
 have k1:=S1 _ _ h1
 exact ⟨k1,by rw [upd_same,List.map_append];rfl,same_to (S.trans S1) hl,((hT.mono S1).app (TupsAt.one upd_same ho)).set k1⟩
theorem ok_lst {f:Addr} {fd:FuncData} (F:Fun K "_law_steps" "_law_steps" sLSteps f fd) (mlen:mg "len" = none) (mrange:mg "range" = none):FnOk P w K mg base CX0 1 f fd ["elder","copy","i","j"] (spLSt K):=by
 refine F.ok scLSteps (fun vs H Q E h=>?_) (fun cdv A outer s H vs Q E hr h=>?_)
 ·obtain ⟨p,q,es,cs,i,j,rfl,_⟩:=h
  rfl
 ·obtain ⟨p,q0,es,cs,i,j,rfl,hp,hc,hi,hj,hel,hg,q⟩:=h
  have z1:(1:Nat)<=sizeLine:=few (by omega)
  have z2:(2:Nat)<=sizeLine:=few (by omega)
  obtain ⟨We,hWe⟩:∃ We,We=(es.drop i).take 1:=⟨_,rfl⟩
  obtain ⟨Wc,hWc⟩:∃ Wc,Wc=(cs.drop j).take 1:=⟨_,rfl⟩
  have ne0:∀ {H2:Hp} {a:Addr} {X:List Str},SqT K H2 a (X.map V.str)->∀ t,H2 t=none->EqS K (upd H2 t (.tup [])) 0 (.ref a) (.ref t) (decide (X=[])):=fun {H2 a X} h t ht=>EqS.strs (ys:=[]) (.inr ⟨sameT (same_upd ht) h,SqT.of upd_same⟩)
  have lens:∀ (ts:List Addr),ts.length<=2000->(ts.map V.ref).length < sizeLine:=fun ts h=>by rw [List.length_map];exact fewer (by omega)
  let σ0:Addr->Addr->Addr->Option V->Option V->L2.St:=fun l pw pq v7 v8=>[some (.ref p),some (.ref q0),some (.int (i:Nat)),some (.int (j:Nat)),some (.ref l),some (.ref pw),some (.ref pq),v7,v8]
  let tE:TS:=fun D σ H1=>∃ (l pw pq:Addr),σ=σ0 l pw pq none none/\H l=none/\H1 l=some (.lst (([]:List Addr).map V.ref))/\Same H H1/\SqT K H1 pw (We.map V.str)/\SqT K H1 pq (Wc.map V.str)/\¬ (We ≠ []/\Wc=We)/\∀ (H':Hp) (ts:List Addr),H' l=some (.lst (ts.map V.ref))->Same H H'->SqT K H' pw (We.map V.str)->SqT K H' pq (Wc.map V.str)->TupsAt H' ts ((w1 es cs i j).map (·.1))->ts.length<=1->D.nx (σ0 l pw pq none none) H'
  refine ⟨_,pss_cons (ps_set (i:=4) scLSteps.nd rfl (Or.inl rfl) (pe_lst pa_nil))
   (pss_cons (ps_set (i:=5) scLSteps.nd rfl (Or.inl rfl) (pe_slice sl_tupA (pv 0) (po_some (pv 2)) (po_some (pe_op op_add (pv 2) pe_int))))
   (pss_cons (ps_set (i:=6) scLSteps.nd rfl (Or.inl rfl) (pe_slice sl_tupA (pv 1) (po_some (pv 3)) (po_some (pe_op op_add (pv 3) pe_int))))
   (pss_cons (ps_mid (ps_if (pw_and (pt_cmpR (op_neS hr.units) (pv 5) (pe_tup pa_nil) (nomark _)) (pw_and1 (pt_cmpR (op_eqS hr.units) (pv 6) (pv 5) (nomark _)))).pt (pss_one (ps_expr (pe_bm PySem.F.plainAttrs_list PySem.F.slot_list_append PySem.F.type_list_append mt_append (pv 4) (pa_cons (pe_tup (pa_cons pe_str pa_nil)) pa_nil)))) (pss_as tE (pss_one (ps_if (pw_and (pt_cmpR (op_neS hr.units) (pv 5) (pe_tup pa_nil) (nomark _)) (pw_and1 (pt_cmpR (op_neS hr.units) (pv 6) (pe_tup pa_nil) (nomark _)))).pt (pss_one (ps_expr (pe_bm PySem.F.plainAttrs_list PySem.F.slot_list_append PySem.F.type_list_append mt_append (pv 4) (pa_cons (pe_tup (pa_cons pe_str (pa_cons (pe_ix ix_tup (pv 6) pe_int (fun _ _=>rfl)) pa_nil))) pa_nil)))) pss_nil)) (by
   rintro D σ H1 ⟨l,pw,pq,rfl,hl,h1,S,hw,hq,hno,fin⟩
   refine ⟨_,rfl,Nat.zero_le _,fun t0 ht0=>⟨0,_,by decide,ne0 hw t0 ht0,_,rfl,?_⟩⟩
   have S0:=same_upd (o:=.tup []) ht0
   have none1:¬ (i < es.length/\j < cs.length)->∀ {H2:Hp},Same H1 H2->D.nx (σ0 l pw pq none none) H2:=fun h H2 S2=>by
    refine fin H2 [] (S2 _ _ h1) (S.trans S2) (sameT S2 hw) (sameT S2 hq) ?_ (Nat.zero_le _)
    unfold w1
    rw [if_neg h]
    exact TupsAt.nil
   by_cases h1e:i < es.length
   ·have ew:We=[gt es i]:=by rw [hWe];exact one_yes h1e
    rw [decide_eq_false (show ¬ We=[] by rw [ew];exact fun z=>nomatch z)]
    refine iteT ⟨_,rfl,Nat.zero_le _,fun t2 ht2=>⟨0,_,by decide,ne0 (sameT S0 hq) t2 ht2,_,rfl,?_⟩⟩
    have S2:=S0.trans (same_upd (o:=.tup []) ht2)
    by_cases h1c:j < cs.length
    ·have ec:Wc=[gt cs j]:=by rw [hWc];exact one_yes h1c
     rw [decide_eq_false (show ¬ Wc=[] by rw [ec];exact fun z=>nomatch z)]
     have hq2:=sameT S2 hq
     rw [ec] at hq2
     refine iteT ⟨_,rfl,.inl ⟨rfl,_,SqL.of (S2 _ _ h1)⟩,_,rfl,pq,_,_,_,rfl,rfl,hq2,rfl,z2,fun t ht=>?_⟩
     obtain ⟨b1,b2,b3,b4⟩:=step_add (st:=.turn (gt cs j)) (S.trans S2) hl (S2 _ _ h1) TupsAt.nil ht (hg _ (gt_mem h1c))
     refine ⟨l,_,_,rfl,rfl,b1,lens [] (by show 0<=_;omega),?_⟩
     have St:=same_upd (o:=.tup (stepV (.turn (gt cs j)))) ht
     refine fin _ [t] b2 b3 (sqT_l (sameT St (sameT S2 hw)) b1) (sqT_l (sameT St (sameT S2 hq)) b1) ?_ (Nat.le_refl _)
     unfold w1
     rw [if_pos ⟨h1e,h1c⟩,if_neg (fun z=>hno ⟨(by rw [ew];exact (fun y=>nomatch y)),(by rw [ew,ec,z])⟩)]
     exact b4
    ·have ec:Wc=[]:=by rw [hWc];exact one_no h1c
     rw [decide_eq_true ec]
     exact iteF (none1 (fun c=>h1c c.2) S2)
   ·have ew:We=[]:=by rw [hWe];exact one_no h1e
    rw [decide_eq_true ew]
    exact iteF (iteF (none1 (fun c=>h1e c.1) S0))))))
   (pss_cons (ps_mid (ps_if (pt_cmpR (op_neS hr.units) (pv 5) (pe_tup pa_nil) (nomark _)) (pss_one (ps_expr (pe_bm PySem.F.plainAttrs_list PySem.F.slot_list_append PySem.F.type_list_append mt_append (pv 4) (pa_cons (pe_tup (pa_cons pe_str pa_nil)) pa_nil)))) pss_nil))
   (pss_cons (ps_mid (ps_if (pt_cmpR (op_neS hr.units) (pv 6) (pe_tup pa_nil) (nomark _)) (pss_one (ps_expr (pe_bm PySem.F.plainAttrs_list PySem.F.slot_list_append PySem.F.type_list_append mt_append (pv 4) (pa_cons (pe_tup (pa_cons pe_str (pa_cons (pe_ix ix_tup (pv 6) pe_int (fun _ _=>rfl)) pa_nil))) pa_nil)))) pss_nil))
   (pss_cons (ps_mid (ps_if (pw_and (pt_cmpR (op_neS hr.units) (pv 6) (pe_tup pa_nil) (nomark _)) (pw_and1 (pt_cmpR (op_eqS hr.units) (pe_slice sl_tupA (pe_slice sl_tupA (pv 1) po_none (po_some (pv 3))) (po_some (pe_un un_neg pe_int)) po_none) (pv 6) (nomark _)))).pt (pss_one (ps_expr (pe_bm PySem.F.plainAttrs_list PySem.F.slot_list_append PySem.F.type_list_append mt_append (pv 4) (pa_cons (pe_tup (pa_cons pe_str pa_nil)) pa_nil)))) pss_nil))
   (pss_cons (ps_set (i:=7) scLSteps.nd rfl (Or.inl rfl) (pe_slice sl_tupA (pv 0) (po_some (pv 2)) (po_some (pe_op op_add (pv 2) pe_int))))
   (pss_cons (ps_mid (ps_if (pw_and (pt_cmpR op_eq (pe_callB call_len_seq (by rfl) mlen PySem.boot_len (pa_cons (pv 7) pa_nil)) pe_int (nomark _)) (pw_and (pt_cmpR op_ne (pe_ix ix_tup (pv 7) pe_int (fun _ _=>rfl)) (pe_ix ix_tup (pv 7) pe_int (fun _ _=>rfl)) (nomark _)) (pw_and1 (pt_cmpR (op_eqS hr.units) (pe_slice sl_tupA (pv 1) (po_some (pv 3)) (po_some (pe_op op_add (pv 3) pe_int))) (pe_rev (pv 7) (pe_un un_neg pe_int)) (nomark _))))).pt (pss_one (ps_expr (pe_bm PySem.F.plainAttrs_list PySem.F.slot_list_append PySem.F.type_list_append mt_append (pv 4) (pa_cons (pe_tup (pa_cons pe_str pa_nil)) pa_nil)))) pss_nil))
   (pss_cons (ps_for PassesOwn.never rfl (pi_range2 (by rfl) mrange (pa_cons pe_int (pa_cons (pe_op op_add (pe_op op_sub (pe_callB call_len_seq (by rfl) mlen PySem.boot_len (pa_cons (pv 0) pa_nil)) (pv 2)) pe_int) pa_nil))) (pg_name (i:=8) scLSteps.nd rfl (Or.inl rfl)) (pss_one (ps_if (pw_and (pt_cmpR op_gt (pv 2) pe_int (nomark _)) (pw_and1 (pt_cmpR op_eq (pe_ix ix_tup (pv 0) (pe_op op_sub (pv 2) pe_int) (fun _ _=>rfl)) (pe_ix ix_tup (pv 0) (pe_op op_sub (pe_op op_add (pv 2) (pv 8)) pe_int) (fun _ _=>rfl)) (nomark _)))).pt (pss_one (ps_expr (pe_bm PySem.F.plainAttrs_list PySem.F.slot_list_append PySem.F.type_list_append mt_append (pv 4) (pa_cons (pe_tup (pa_cons pe_str (pa_cons (pv 8) pa_nil))) pa_nil)))) pss_nil)))
   (pss_one (ps_ret (pv 4)))))))))))),?_⟩
  refine ⟨Nat.zero_le _,fun l hl=>?_⟩
  have S0:=same_upd (o:=.lst []) hl
  refine ⟨_,rfl,_,rfl,_,rfl,_,rfl,_,_,rfl,rfl,_,rfl,cutTup (sameT S0 hp) fun pw Hw Sw hpw=>?_⟩
  rw [cut_one,<-hWe] at hpw
  refine ⟨_,rfl,_,rfl,_,rfl,_,rfl,_,_,rfl,rfl,_,rfl,cutTup (sameT Sw (sameT S0 hc)) fun pq Hq Sq hpq=>?_⟩
  rw [cut_one,<-hWc] at hpq
  have S1:=(S0.trans Sw).trans Sq
  have l1:Hq l=some (.lst (([]:List Addr).map V.ref)):=Sq _ _ (Sw _ _ upd_same)
  have hpw1:=sameT Sq hpw
  -- keep or turn
  refine ⟨fun σ' H'=>∃ ts:List Addr,σ'=σ0 l pw pq none none/\H' l=some (.lst (ts.map V.ref))/\Same H H'/\SqT K H' pw (We.map V.str)/\SqT K H' pq (Wc.map V.str)/\TupsAt H' ts ((w1 es cs i j).map (·.1))/\ts.length<=1,?_,?_⟩
  ·refine ⟨_,rfl,Nat.zero_le _,fun t0 ht0=>⟨0,_,by decide,ne0 hpw1 t0 ht0,_,rfl,?_⟩⟩
   have St:=same_upd (o:=.tup []) ht0
   by_cases h1:We=[]
   ·rw [decide_eq_true h1]
    exact iteF (iteF ⟨l,pw,pq,rfl,hl,St _ _ l1,S1.trans St,sameT St hpw1,sameT St hpq,fun c=>c.1 h1,fun H' ts a b c d e f=>⟨ts,rfl,a,b,c,d,e,f⟩⟩)
   ·rw [decide_eq_false h1]
    refine iteT ⟨_,rfl,_,rfl,0,_,by decide,EqS.strs (.inr ⟨sameT St hpq,sameT St hpw1⟩),_,rfl,?_⟩
    by_cases h2:Wc=We
    ·rw [decide_eq_true h2]
     have h1e:i < es.length:=by
      by_cases h:i < es.length
      ·exact h
      ·exact absurd (by rw [hWe];exact one_no h) h1
     have h1c:j < cs.length:=by
      by_cases h:j < cs.length
      ·exact h
      ·exact absurd (by rw [<-h2,hWc];exact one_no h) h1
     have eq1:gt es i=gt cs j:=by
      rw [hWc,hWe,one_yes h1e,one_yes h1c] at h2
      exact (List.cons.inj h2).1.symm
     refine iteT ⟨_,rfl,.inl ⟨rfl,_,SqL.of (St _ _ l1)⟩,z1,fun t ht=>?_⟩
     obtain ⟨b1,b2,b3,b4⟩:=step_add (st:=.keep) (S1.trans St) hl (St _ _ l1) TupsAt.nil ht trivial
     have Sk:=same_upd (o:=.tup (stepV .keep)) ht
     refine ⟨l,_,_,rfl,rfl,b1,lens [] (by show 0<=_;omega),[t],rfl,b2,b3,sqT_l (sameT Sk (sameT St hpw1)) b1,sqT_l (sameT Sk (sameT St hpq)) b1,?_,Nat.le_refl _⟩
     unfold w1
     rw [if_pos ⟨h1e,h1c⟩,if_pos eq1]
     exact b4
    ·rw [decide_eq_false h2]
     exact iteF ⟨l,pw,pq,rfl,hl,St _ _ l1,S1.trans St,sameT St hpw1,sameT St hpq,fun c=>h2 c.2,fun H' ts a b c d e f=>⟨ts,rfl,a,b,c,d,e,f⟩⟩
  rintro σ' H1 ⟨ts1,rfl,k1,S1,p1,c1,T1,L1⟩
  -- lose
  refine ⟨fun σ' H'=>∃ ts:List Addr,σ'=σ0 l pw pq none none/\H' l=some (.lst (ts.map V.ref))/\Same H H'/\SqT K H' pw (We.map V.str)/\SqT K H' pq (Wc.map V.str)/\TupsAt H' ts ((w1 es cs i j++w2 es i j).map (·.1))/\ts.length<=2,?_,?_⟩
  ·refine ⟨_,rfl,Nat.zero_le _,fun t0 ht0=>⟨0,_,by decide,ne0 p1 t0 ht0,_,rfl,?_⟩⟩
   have St:=same_upd (o:=.tup []) ht0
   by_cases h:i < es.length
   ·rw [decide_eq_false (show ¬ We=[] by rw [hWe,one_yes h];exact fun z=>nomatch z)]
    refine iteT ⟨_,rfl,.inl ⟨rfl,_,SqL.of (St _ _ k1)⟩,z1,fun t ht=>?_⟩
    obtain ⟨b1,b2,b3,b4⟩:=step_add (st:=.lose) (S1.trans St) hl (St _ _ k1) (T1.mono St) ht trivial
    have Sk:=same_upd (o:=.tup (stepV .lose)) ht
    refine ⟨l,_,_,rfl,rfl,b1,lens ts1 (by omega),ts1++[t],rfl,b2,b3,sqT_l (sameT Sk (sameT St p1)) b1,sqT_l (sameT Sk (sameT St c1)) b1,?_,by rw [List.length_append];show _+1<=_;omega⟩
    rw [List.map_append]
    unfold w2
    rw [if_pos h]
    exact b4
   ·rw [decide_eq_true (show We=[] by rw [hWe];exact one_no h)]
    refine iteF ⟨ts1,rfl,St _ _ k1,S1.trans St,sameT St p1,sameT St c1,?_,by omega⟩
    rw [List.map_append]
    unfold w2
    rw [if_neg h,List.map_nil,List.append_nil]
    exact T1.mono St
  rintro σ' H2 ⟨ts2,rfl,k2,S2,p2,c2,T2,L2⟩
  -- add
  refine ⟨fun σ' H'=>∃ ts:List Addr,σ'=σ0 l pw pq none none/\H' l=some (.lst (ts.map V.ref))/\Same H H'/\SqT K H' pw (We.map V.str)/\SqT K H' pq (Wc.map V.str)/\TupsAt H' ts ((w1 es cs i j++w2 es i j++w3 cs i j).map (·.1))/\ts.length<=3,?_,?_⟩
  ·refine ⟨_,rfl,Nat.zero_le _,fun t0 ht0=>⟨0,_,by decide,ne0 c2 t0 ht0,_,rfl,?_⟩⟩
   have St:=same_upd (o:=.tup []) ht0
   by_cases h:j < cs.length
   ·have ec:Wc=[gt cs j]:=by rw [hWc];exact one_yes h
    rw [decide_eq_false (show ¬ Wc=[] by rw [ec];exact fun z=>nomatch z)]
    have hq2:=sameT St c2
    rw [ec] at hq2
    refine iteT ⟨_,rfl,.inl ⟨rfl,_,SqL.of (St _ _ k2)⟩,_,rfl,pq,_,_,_,rfl,rfl,hq2,rfl,z2,fun t ht=>?_⟩
    obtain ⟨b1,b2,b3,b4⟩:=step_add (st:=.add (gt cs j)) (S2.trans St) hl (St _ _ k2) (T2.mono St) ht (hg _ (gt_mem h))
    have Sk:=same_upd (o:=.tup (stepV (.add (gt cs j)))) ht
    refine ⟨l,_,_,rfl,rfl,b1,lens ts2 (by omega),ts2++[t],rfl,b2,b3,sqT_l (sameT Sk (sameT St p2)) b1,sqT_l (sameT Sk (sameT St c2)) b1,?_,by rw [List.length_append];show _+1<=_;omega⟩
    rw [List.map_append]
    unfold w3
    rw [if_pos h]
    exact b4
   ·rw [decide_eq_true (show Wc=[] by rw [hWc];exact one_no h)]
    refine iteF ⟨ts2,rfl,St _ _ k2,S2.trans St,sameT St p2,sameT St c2,?_,by omega⟩
    rw [List.map_append]
    unfold w3
    rw [if_neg h,List.map_nil,List.append_nil]
    exact T2.mono St
  rintro σ' H3 ⟨ts3,rfl,k3,S3,p3,c3,T3,L3⟩
  -- twice
  refine ⟨fun σ' H'=>∃ ts:List Addr,σ'=σ0 l pw pq none none/\H' l=some (.lst (ts.map V.ref))/\Same H H'/\SqT K H' pw (We.map V.str)/\SqT K H' pq (Wc.map V.str)/\TupsAt H' ts ((w1 es cs i j++w2 es i j++w3 cs i j++w4 cs i j).map (·.1))/\ts.length<=4,?_,?_⟩
  ·have none4:¬ (0 < j/\j < cs.length/\gt cs j=gt cs (j - 1))->∀ {H4:Hp},Same H3 H4->∃ ts:List Addr,σ0 l pw pq none none=σ0 l pw pq none none/\H4 l=some (.lst (ts.map V.ref))/\Same H H4/\SqT K H4 pw (We.map V.str)/\SqT K H4 pq (Wc.map V.str)/\TupsAt H4 ts ((w1 es cs i j++w2 es i j++w3 cs i j++w4 cs i j).map (·.1))/\ts.length<=4:=fun h H4 S4=>by
    refine ⟨ts3,rfl,S4 _ _ k3,S3.trans S4,sameT S4 p3,sameT S4 c3,?_,by omega⟩
    rw [List.map_append]
    unfold w4
    rw [if_neg h,List.map_nil,List.append_nil]
    exact T3.mono S4
   refine ⟨_,rfl,Nat.zero_le _,fun t0 ht0=>⟨0,_,by decide,ne0 c3 t0 ht0,_,rfl,?_⟩⟩
   have St:=same_upd (o:=.tup []) ht0
   by_cases h:j < cs.length
   ·have ec:Wc=[gt cs j]:=by rw [hWc];exact one_yes h
    rw [decide_eq_false (show ¬ Wc=[] by rw [ec];exact fun z=>nomatch z)]
    refine iteT ⟨_,rfl,_,rfl,_,rfl,cutTup (sameT (S3.trans St) hc) fun pa Ha Sa hpa=>?_⟩
    rw [cutTake V.str cs j] at hpa
    refine ⟨_,rfl,_,rfl,?_⟩
    unfold tNoPart
    refine cutTup hpa fun pb Hb Sb hpb=>?_
    rw [show cutV ((cs.take j).map V.str) (some (-1)) none=_ from cut_tail cs j hj] at hpb
    have Sab:=(St.trans Sa).trans Sb
    refine ⟨_,rfl,0,_,by decide,EqS.strs (.inr ⟨hpb,sameT Sab c3⟩),_,rfl,?_⟩
    by_cases h4:0 < j/\j < cs.length/\gt cs j=gt cs (j - 1)
    ·rw [decide_eq_true (show (if j=0 then [] else [gt cs (j - 1)])=Wc by rw [if_neg (by omega),ec,h4.2.2])]
     refine iteT ⟨_,rfl,.inl ⟨rfl,_,SqL.of (Sab _ _ k3)⟩,z1,fun t ht=>?_⟩
     obtain ⟨b1,b2,b3,b4⟩:=step_add (st:=.twice) (S3.trans Sab) hl (Sab _ _ k3) (T3.mono Sab) ht trivial
     have Sk:=same_upd (o:=.tup (stepV .twice)) ht
     refine ⟨l,_,_,rfl,rfl,b1,lens ts3 (by omega),ts3++[t],rfl,b2,b3,sqT_l (sameT Sk (sameT Sab p3)) b1,sqT_l (sameT Sk (sameT Sab c3)) b1,?_,by rw [List.length_append];show _+1<=_;omega⟩
     rw [List.map_append]
     unfold w4
     rw [if_pos h4]
     exact b4
    ·rw [decide_eq_false (show ¬ (if j=0 then [] else [gt cs (j - 1)])=Wc from fun z=>h4 (by
      by_cases h0:j=0
      ·rw [if_pos h0,ec] at z;cases z
      ·rw [if_neg h0,ec] at z
       exact ⟨by omega,h,(List.cons.inj z).1.symm⟩))]
     exact iteF (none4 h4 Sab)
   ·rw [decide_eq_true (show Wc=[] by rw [hWc];exact one_no h)]
    exact iteF (iteF (none4 (fun c=>h c.2.1) St))
  rintro σ' H4 ⟨ts4,rfl,k4,S4,p4,c4,T4,L4⟩
  -- swap
  refine ⟨_,rfl,_,rfl,_,rfl,_,rfl,_,_,rfl,rfl,_,rfl,cutTup (sameT S4 hp) fun p7 H7 S7 hp7=>?_⟩
  rw [cutV_two] at hp7
  refine ⟨fun σ' H'=>∃ ts:List Addr,σ'=σ0 l pw pq (some (.ref p7)) none/\H' l=some (.lst (ts.map V.ref))/\Same H H'/\SqT K H' pw (We.map V.str)/\SqT K H' pq (Wc.map V.str)/\TupsAt H' ts ((w1 es cs i j++w2 es i j++w3 cs i j++w4 cs i j++w5 es cs i j).map (·.1))/\ts.length<=5,?_,?_⟩
  ·have k7:=S7 _ _ k4
   have none5:swapW es cs i j=false->∀ {H8:Hp},Same H7 H8->∃ ts:List Addr,σ0 l pw pq (some (.ref p7)) none=σ0 l pw pq (some (.ref p7)) none/\H8 l=some (.lst (ts.map V.ref))/\Same H H8/\SqT K H8 pw (We.map V.str)/\SqT K H8 pq (Wc.map V.str)/\TupsAt H8 ts ((w1 es cs i j++w2 es i j++w3 cs i j++w4 cs i j++w5 es cs i j).map (·.1))/\ts.length<=5:=fun h H8 S8=>by
    refine ⟨ts4,rfl,S8 _ _ k7,(S4.trans S7).trans S8,sameT S8 (sameT S7 p4),sameT S8 (sameT S7 c4),?_,by omega⟩
    rw [List.map_append]
    unfold w5
    rw [h,if_neg Bool.false_ne_true,List.map_nil,List.append_nil]
    exact (T4.mono S7).mono S8
   refine ⟨_,rfl,p7,_,rfl,.inr hp7,rfl,_,rfl,?_⟩
   rw [List.length_map]
   by_cases h:i+1 < es.length
   ·have e2:=two_yes h
    have hp7':=hp7
    rw [e2] at hp7'
    refine iteY (by rw [e2];rfl) ?_
    refine ⟨_,rfl,p7,_,_,_,rfl,rfl,hp7',rfl,_,rfl,p7,_,_,_,rfl,rfl,hp7',rfl,rfl,_,rfl,?_⟩
    by_cases hab:gt es i=gt es (i+1)
    ·refine iteNS (by rw [hab]) (iteF (none5 ?_ (Same.refl _)))
     unfold swapW
     rw [if_pos h,if_pos hab]
    ·refine ite2 (fun _=>?_) (fun c=>absurd (by rw [decide_eq_false (fun z=>hab (V.str.inj z)),Bool.not_false]) c)
     refine ⟨_,rfl,_,rfl,_,rfl,_,rfl,_,_,rfl,rfl,_,rfl,cutTup (sameT S7 (sameT S4 hc)) fun pc Hc Sc hpc=>?_⟩
     rw [cutV_two] at hpc
     refine ⟨_,rfl,_,rfl,rfl,p7,_,rfl,sameT Sc hp7',fun pr hpr=>?_⟩
     have Sr:=same_upd (o:=.tup ([V.str (gt es i),V.str (gt es (i+1))].reverse)) hpr
     have q1:SqT K (upd Hc pr (.tup ([V.str (gt es i),V.str (gt es (i+1))].reverse))) pr ([gt es (i+1),gt es i].map V.str):=SqT.of upd_same
     refine ⟨0,_,by decide,EqS.strs (.inr ⟨sameT Sr hpc,q1⟩),_,rfl,?_⟩
     have S8:=Sc.trans Sr
     by_cases hs:(cs.drop j).take 2=[gt es (i+1),gt es i]
     ·rw [decide_eq_true hs]
      have hsw:swapW es cs i j=true:=by unfold swapW;rw [if_pos h,if_neg hab,decide_eq_true hs]
      refine iteT ⟨_,rfl,.inl ⟨rfl,_,SqL.of (S8 _ _ k7)⟩,z1,fun t ht=>?_⟩
      obtain ⟨b1,b2,b3,b4⟩:=step_add (st:=.swap) ((S4.trans S7).trans S8) hl (S8 _ _ k7) ((T4.mono S7).mono S8) ht trivial
      have Sk:=same_upd (o:=.tup (stepV .swap)) ht
      refine ⟨l,_,_,rfl,rfl,b1,lens ts4 (by omega),ts4++[t],rfl,b2,b3,sqT_l (sameT Sk (sameT S8 (sameT S7 p4))) b1,sqT_l (sameT Sk (sameT S8 (sameT S7 c4))) b1,?_,by rw [List.length_append];show _+1<=_;omega⟩
      rw [List.map_append]
      unfold w5
      rw [hsw,if_pos rfl]
      exact b4
     ·rw [decide_eq_false hs]
      refine iteF (none5 ?_ S8)
      unfold swapW
      rw [if_pos h,if_neg hab,decide_eq_false hs]
   ·refine iteK (fun z=>two_no h (by have:=V.int.inj z;omega)) (iteF (none5 ?_ (Same.refl _)))
    unfold swapW
    rw [if_neg h]
  rintro σ' H5 ⟨ts5,rfl,k5,S5,p5,c5,T5,L5⟩
  -- skips
  have hlen:(es.map V.str).length=es.length:=List.length_map ..
  refine ⟨_,rfl,p,_,rfl,.inr (sameT S5 hp),_,rfl,_,_,rfl,rfl,_,_,rfl,rfl,1,_,rfl,⟨by decide,by decide,by rw [hlen];omega,by rw [hlen];omega⟩,?_⟩
  have en:((((es.map V.str).length:Int) - ((i:Nat):Int)+1) - 1).toNat=es.length - i:=by rw [hlen];omega
  rw [en]
  let sk:Nat->List Sk:=fun n=>if i=0 then [] else ((List.range n).filter fun k=>decide (gt es (i+k)=gt es (i - 1))).map fun k=>Sk.skip (k+1)
  have skl:∀ n,(sk n).length<=n:=fun n=>by
   show (if i=0 then [] else _).length<=n
   split
   ·exact Nat.zero_le _
   ·rw [List.length_map]
    exact Nat.le_trans (List.length_filter_le _ _) (by rw [List.length_range];exact Nat.le_refl _)
  refine for_range (fun n σ H'=>∃ (ts:List Addr) (v8:Option V),σ=σ0 l pw pq (some (.ref p7)) v8/\H' l=some (.lst (ts.map V.ref))/\Same H H'/\TupsAt H' ts ((w1 es cs i j++w2 es i j++w3 cs i j++w4 cs i j++w5 es cs i j).map (·.1)++sk n)/\ts.length<=5+n) ⟨ts5,none,rfl,k5,S5,?_,by omega⟩ ?_ ?_
  ·have:sk 0=[]:=by
    show (if i=0 then [] else _)=[]
    split <;> rfl
   rw [this,List.append_nil]
   exact T5
  ·rintro n σ H6 hn ⟨ts,v8,rfl,k6,S6,T6,L6⟩
   have hn1:sk (n+1)=if 0 < i/\gt es (i+n)=gt es (i - 1) then sk n++[.skip (n+1)] else sk n:=by
    show (if i=0 then [] else _)=_
    by_cases h0:i=0
    ·rw [if_pos h0,if_neg (by omega)]
     show []=(if i=0 then [] else _)
     rw [if_pos h0]
    ·rw [if_neg h0,List.range_succ,List.filter_append,List.map_append]
     have e:sk n=((List.range n).filter fun k=>decide (gt es (i+k)=gt es (i - 1))).map fun k=>Sk.skip (k+1):=by
      show (if i=0 then [] else _)=_
      rw [if_neg h0]
     rw [<-e]
     by_cases hg2:gt es (i+n)=gt es (i - 1)
     ·rw [if_pos ⟨by omega,hg2⟩,List.filter_cons_of_pos (by rw [decide_eq_true hg2])]
      rfl
     ·rw [if_neg (fun c=>hg2 c.2),List.filter_cons_of_neg (by rw [decide_eq_false hg2];exact Bool.false_ne_true)]
      exact List.append_nil _
   have none6:¬ (0 < i/\gt es (i+n)=gt es (i - 1))->∃ (ts':List Addr) (v8:Option V),σ0 l pw pq (some (.ref p7)) (some (.int (1+((n:Nat):Int))))=σ0 l pw pq (some (.ref p7)) v8/\H6 l=some (.lst (ts'.map V.ref))/\Same H H6/\TupsAt H6 ts' ((w1 es cs i j++w2 es i j++w3 cs i j++w4 cs i j++w5 es cs i j).map (·.1)++sk (n+1))/\ts'.length<=5+(n+1):=fun h=>by
    rw [hn1,if_neg h]
    exact ⟨ts,_,rfl,k6,S6,T6,by omega⟩
   refine ⟨_,rfl,_,_,rfl,rfl,_,rfl,?_⟩
   refine ite2 (fun h0=>?_) (fun h0=>iteF (none6 fun c=>h0 (decide_eq_true (by omega))))
   have h0:=of_decide_eq_true h0
   have e1:((i:Nat):Int)+(1+((n:Nat):Int)) - 1=((i+n:Nat):Int):=by omega
   have e2:((i:Nat):Int) - 1=((i - 1:Nat):Int):=by omega
   refine ⟨_,rfl,_,rfl,_,_,rfl,rfl,p,_,_,_,rfl,rfl,sameT S6 hp,(by rw [e2];exact at_w (by omega)),_,rfl,_,rfl,_,rfl,_,_,rfl,rfl,_,_,rfl,rfl,p,_,_,_,rfl,rfl,sameT S6 hp,(by rw [e1];exact at_w (by omega)),rfl,_,rfl,?_⟩
   refine ite2 (fun h1=>?_) (fun h1=>none6 fun c=>h1 (decide_eq_true (by rw [c.2])))
   have h1:=of_decide_eq_true h1
   injection h1 with h1
   have ek:(1:Int)+((n:Nat):Int)=((n+1:Nat):Int):=by omega
   refine ⟨_,rfl,.inl ⟨rfl,_,SqL.of k6⟩,_,rfl,z2,fun t ht=>?_⟩
   have ev:[V.str (Str.ofString "skip"),V.int (1+((n:Nat):Int))]=stepV (.skip (n+1)):=by
    rw [ek];rfl
   rw [ev] at *
   obtain ⟨b1,b2,b3,b4⟩:=step_add (st:=.skip (n+1)) S6 hl k6 T6 ht ⟨by omega,by omega⟩
   refine ⟨l,_,_,rfl,rfl,b1,lens ts (by omega),ts++[t],_,rfl,b2,b3,?_,by rw [List.length_append];show _+1<=_;omega⟩
   rw [hn1,if_pos ⟨by omega,h1.symm⟩,<-List.append_assoc]
   exact b4
  ·rintro σ H6 ⟨ts,v8,rfl,k6,S6,T6,L6⟩
   refine ⟨_,rfl,q _ l ts S6 k6 ?_⟩
   have e6:(w6 es i j).map (·.1)=sk (es.length - i):=by
    show ((skips es i).map _).map _=(if i=0 then [] else _)
    unfold skips
    by_cases h0:i=0
    ·rw [if_pos h0,if_pos h0];rfl
    ·rw [if_neg h0,if_neg h0,List.map_map,List.map_map];rfl
   unfold ways
   rw [List.map_append,e6]
   exact T6
theorem scLAlk:FnScope ["one","two"] ["one","two"] (defScope sLAlk):=⟨rfl,rfl,rfl,by decide +kernel,rfl,by decide +kernel,by decide +kernel⟩
theorem nd_LAlk:(["k","one","two"]:List Str).Nodup:=by decide +kernel
theorem ok_lalk {f:Addr} {fd:FuncData} (F:Fun K "_law_alike" "_law_alike" sLAlk f fd) (mlen:mg "len" = none) (mrange:mg "range" = none):FnOk P w K mg base CX0 1 f fd ["one","two"] spAlike:=by
 refine Fun.okR F scLAlk (fun vs H Q E h=>?_) (fun cdv A outer s H vs Q Q2 E hr h hq=>?_)
 ·obtain ⟨a,b,rfl,_⟩:=h
  rfl
 ·obtain ⟨a,b,rfl,ha,hb,q⟩:=h
  refine ⟨_,pss_one (ps_ret (pe_and (pe_cmpR op_eq (pe_callB call_len_str (by rfl) mlen PySem.boot_len (pa_cons (pv 0) pa_nil)) (pe_callB call_len_str (by rfl) mlen PySem.boot_len (pa_cons (pv 1) pa_nil)) (nomark _)) (pe_one (pe_cmpR op_eq (pe_callB call_len_seq (by rfl) mlen PySem.boot_len (pa_cons (pe_comp (Nc:=["k","one","two"]) (mp:=[none,some 0,some 1]) rfl (CompOk.of (by rfl)) (pi_range1 (by rfl) mrange (pa_cons (pe_callB call_len_str (by rfl) mlen PySem.boot_len (pa_cons (pv 0) pa_nil)) pa_nil))
    (fun cl C s H fp=>⟨pg_name (i:=0) nd_LAlk rfl (Or.inl rfl),pts_one (pt_cmpR op_ne (pe_ix ix_str (pv 1) (pv 0) (fun _ _=>rfl)) (pe_ix ix_str (pv 2) (pv 0) (fun _ _=>rfl)) (nomark _)),pv 0⟩)) pa_nil)) pe_int (nomark _))))),?_⟩
  refine ⟨_,rfl,a,rfl,ha,_,rfl,b,rfl,hb,rfl,_,rfl,?_⟩
  by_cases hl:a.length=b.length
  ·refine iteY (by rw [hl]) ?_
   refine ⟨_,rfl,a,rfl,ha,(a.length:Int),rfl,(by omega),(by have:=szl;omega),?_⟩
   rw [Int.toNat_natCast]
   refine comp_pure (as:=List.range a.length) (v:=fun i=>.int (0+(i:Nat))) (fun i=>!decide (a.cps.toList[i]?=b.cps.toList[i]?)) (fun i=>.int (0+(i:Nat))) (src_range 0 a.length H) (by rw [List.length_range];exact ha) (fun i hi k hk=>?_) (fun i hi _ k hk=>?_) (fun D hD=>?_)
   ·have hi':=List.mem_range.mp hi
    have ea:a.cps.toList[i]?=some a.cps.toList[i]:=List.getElem?_eq_getElem (by rw [clen];exact hi')
    have eb:b.cps.toList[i]?=some b.cps.toList[i]:=List.getElem?_eq_getElem (by rw [clen,<-hl];exact hi')
    have ei:(0:Int)+((i:Nat):Int)=((i:Nat):Int):=by omega
    refine ⟨_,rfl,_,rfl,a,_,a.cps.toList[i],rfl,rfl,ha,(by rw [ei];exact atI_nat ea),_,rfl,_,rfl,b,_,b.cps.toList[i],rfl,rfl,hb,(by rw [ei];exact atI_nat eb),rfl,_,rfl,?_⟩
    have e:(!decide (V.str ⟨#[a.cps.toList[i]]⟩=V.str ⟨#[b.cps.toList[i]]⟩))=(!decide (a.cps.toList[i]?=b.cps.toList[i]?)):=by
     rw [ea,eb]
     congr 1
     exact decide_eq_decide.mpr ⟨fun z=>by injection z with z;injection z with z;simpa using z,fun z=>by rw [Option.some.inj z]⟩
    rw [e];exact hk
   ·exact ⟨_,rfl,hk⟩
   ·refine ⟨D,_,rfl,.inl (SqL.of upd_same),rfl,hq _ _ (Rst.same (same_upd hD) ?_)⟩
    rw [List.length_map]
    have e:decide (V.int (((List.range a.length).filter fun i=>!decide (a.cps.toList[i]?=b.cps.toList[i]?)).length:Nat)=V.int 1)=alikeB a.cps.toList b.cps.toList:=by
     unfold alikeB placesB
     rw [if_pos (by rw [clen,clen];exact hl),clen]
     exact decide_eq_decide.mpr ⟨fun z=>by injection z with z;omega,fun z=>by rw [z];rfl⟩
    rw [e];exact q
  ·refine iteK (fun z=>hl (by injection z with z;omega)) ?_
   refine hq _ _ (Rst.same (Same.refl H) ?_)
   have e:alikeB a.cps.toList b.cps.toList=false:=by
    unfold alikeB
    rw [if_neg (by rw [clen,clen];exact hl)]
   rw [<-e];exact q
def kinds5:List Str:=[Str.ofString "lose",Str.ofString "add",Str.ofString "twice",Str.ofString "swap",Str.ofString "skip"]
theorem scLPrice:FnScope ["elder","i","step","prices"] ["elder","i","step","prices"] (defScope sLPrice):=⟨rfl,rfl,rfl,by decide +kernel,rfl,by decide +kernel,by decide +kernel⟩
theorem ok_lprice {f gL:Addr} {fd dL:FuncData} (F:Fun K "_law_price" "_law_price" sLPrice f fd) (DL:Dfn K mg "_law_alike" sLAlk gL dL ["one","two"]) (GL:FnOk P w K mg base CX0 1 gL dL ["one","two"] spAlike) (mint:mg "int" = none):FnOk P w K mg base CX0 2 f fd ["elder","i","step","prices"] (spPrice K):=by
 refine Fun.okR F scLPrice (fun vs H Q E h=>?_) (fun cdv A outer s H vs Q Q2 E hr h hq=>?_)
 ·obtain ⟨p,t,q,es,d,st,pr,rfl,_⟩:=h
  rfl
 ·obtain ⟨p,t,r,es,d,st,pr,rfl,hp,hg,ht,hok,hto,hpr,hl7,q⟩:=h
  refine ⟨_,pss_cons (ps_if (pt_cmpR op_eq (pe_ix ix_tup (pv 2) pe_int (fun _ _=>rfl)) pe_str (nomark _)) (pss_one (ps_ret pe_int)) pss_nil)
   (pss_cons (ps_if (pt_cmpR op_eq (pe_ix ix_tup (pv 2) pe_int (fun _ _=>rfl)) pe_str (nomark _))
    (pss_one (ps_ret (pe_ix ix_tup (pv 3) (pe_op op_sub pe_int (pe_callTy call_int1 (by rfl) mint boot_int (pa_cons (pe_call GL hr (by rfl) DL.at_ DL.fn.kp DL.bn .nil pass0 (pa_cons (pe_ix ix_tup (pv 0) (pv 1) (fun _ _=>rfl)) (pa_cons (pe_ix ix_tup (pv 2) pe_int (fun _ _=>rfl)) pa_nil))) pa_nil))) (fun _ _=>rfl)))) pss_nil)
   (pss_one (ps_ret (pe_ix ix_tup (pv 3) (pe_op op_add pe_int (pe_bm PySem.F.plainAttrs_list PySem.F.slot_list_index PySem.F.type_list_index mt_indexL (pe_lst (pa_cons pe_str (pa_cons pe_str (pa_cons pe_str (pa_cons pe_str (pa_cons pe_str pa_nil)))))) (pa_cons (pe_ix ix_tup (pv 2) pe_int (fun _ _=>rfl)) pa_nil))) (fun _ _=>rfl))))),?_⟩
  have go:∀ i H',Same H H'->price es d pr st=i->Q2 (.int i) H':=fun i H' S e=>hq _ _ (Rst.same S (by rw [<-e];exact q))
  by_cases hkp:st=.keep
  ·subst hkp
   exact ⟨_,rfl,t,_,_,_,rfl,rfl,ht,rfl,rfl,_,rfl,iteY rfl (go _ _ (Same.refl H) rfl)⟩
  by_cases htn:∃ z,st=.turn z
  ·obtain ⟨z,rfl⟩:=htn
   have hd:d < es.length:=hto
   refine ⟨_,rfl,t,_,_,_,rfl,rfl,ht,rfl,rfl,_,rfl,iteK (by decide +kernel) ?_⟩
   refine ⟨_,rfl,t,_,_,_,rfl,rfl,ht,rfl,rfl,_,rfl,iteY rfl ?_⟩
   refine ⟨_,rfl,_,rfl,_,rfl,p,_,_,_,rfl,rfl,hp,at_w hd,_,rfl,t,_,_,_,rfl,rfl,ht,rfl,_,_,rfl,(hg _ (gt_mem hd)).small,Good.small hok,.inr ⟨_,rfl,_,_,rfl,rfl,?_⟩⟩
   cases hb:alikeB (gt es d).cps.toList z.cps.toList with
   | true=>exact ⟨r,_,_,_,rfl,rfl,hpr,at_p (i:=0) (by omega),go _ _ (Same.refl H) (by show (if alikeB (gt es d).cps.toList z.cps.toList=true then _ else _)=_;rw [hb];rfl)⟩
   | false=>exact ⟨r,_,_,_,rfl,rfl,hpr,at_p (i:=1) (by omega),go _ _ (Same.refl H) (by show (if alikeB (gt es d).cps.toList z.cps.toList=true then _ else _)=_;rw [hb];rfl)⟩
  ·obtain ⟨z,rest,j,e1,e0,e2,e3,e4,e5,e6⟩:∃ (z:Str) (rest:List V) (j:Nat),stepV st=V.str z :: rest/\V.str z ≠ V.str (Str.ofString "keep")/\V.str z ≠ V.str (Str.ofString "turn")/\kinds5[j]?=some z/\(∀ m,m < j->kinds5[m]? ≠ some z)/\j < 5/\price es d pr st=gI pr (2+j):=by
    cases st with
    | keep=>exact absurd rfl hkp
    | lose=>exact ⟨_,_,0,rfl,by decide +kernel,by decide +kernel,rfl,by decide +kernel,by decide,rfl⟩
    | add z=>exact ⟨_,_,1,rfl,by decide +kernel,by decide +kernel,rfl,by decide +kernel,by decide,rfl⟩
    | twice=>exact ⟨_,_,2,rfl,by decide +kernel,by decide +kernel,rfl,by decide +kernel,by decide,rfl⟩
    | swap=>exact ⟨_,_,3,rfl,by decide +kernel,by decide +kernel,rfl,by decide +kernel,by decide,rfl⟩
    | skip m=>exact ⟨_,_,4,rfl,by decide +kernel,by decide +kernel,rfl,by decide +kernel,by decide,rfl⟩
    | turn z=>exact absurd ⟨z,rfl⟩ htn
   have a0:atI (stepV st) 0=some (.str z):=atI_nat (j:=0) (by rw [e1];rfl)
   refine ⟨_,rfl,t,_,_,_,rfl,rfl,ht,a0,rfl,_,rfl,iteK e0 ?_⟩
   refine ⟨_,rfl,t,_,_,_,rfl,rfl,ht,a0,rfl,_,rfl,iteK e2 ?_⟩
   refine ⟨_,rfl,few (by show 5<=_;omega),fun l2 hl2=>?_⟩
   have S2:=same_upd (o:=.lst (kinds5.map V.str)) hl2
   refine ⟨.inl ⟨rfl,_,SqL.of upd_same⟩,_,rfl,t,_,_,_,rfl,rfl,sameT S2 ht,a0,l2,kinds5,z,j,rfl,rfl,upd_same,e3,e4,(by show 5<=1000;omega),_,_,rfl,rfl,?_⟩
   have ej:(2:Int)+((j:Nat):Int)=((2+j:Nat):Int):=by omega
   exact ⟨r,_,_,_,rfl,rfl,sameT S2 hpr,(by rw [ej];exact at_p (i:=2+j) (by omega)),go _ _ S2 e6⟩
def knotV (n k:Nat):List V:=[.int ((k / (n+1):Nat):Int),.int ((k % (n+1):Nat):Int)]
theorem knotV_at {n i j:Nat} (h:j < n+1):knotV n (i * (n+1)+j)=[.int ((i:Nat):Int),.int ((j:Nat):Int)]:=by
 unfold knotV
 have e1:(i * (n+1)+j) / (n+1)=i:=by
  rw [Nat.mul_comm,Nat.mul_add_div (by omega),Nat.div_eq_of_lt h];rfl
 have e2:(i * (n+1)+j) % (n+1)=j:=by
  rw [Nat.mul_comm,Nat.mul_add_mod,Nat.mod_eq_of_lt h]
 rw [e1,e2]
def spKnO (K:PySem.W.Frag):Sp:=fun vs H Q _=>∃ (p q:Addr) (es cs:List V),vs=[.ref p,.ref q]/\SqT K H p es/\SqT K H q cs/\es.length<=40/\cs.length<=40 ∧
 ∀ (H':Hp) (l:Addr) (as:List Addr),Same H H'->H' l=some (.lst (as.map V.ref))->as.length=(es.length+1) * (cs.length+1)->(∀ k a,as[k]?=some a->H' a=some (.tup (knotV cs.length k)))->Q (.ref l) H'
theorem scKnots:FnScope ["elder","copy","found","i","j"] ["elder","copy"] (defScope sKnots):=⟨rfl,rfl,rfl,by decide +kernel,rfl,by decide +kernel,by decide +kernel⟩
theorem ok_knO {f:Addr} {fd:FuncData} (F:Fun K "_law_knots" "_law_knots" sKnots f fd) (mlen:mg "len" = none) (mrange:mg "range" = none):FnOk P w K mg base CX0 1 f fd ["elder","copy"] (spKnO K):=by
 refine F.ok scKnots (fun vs H Q E h=>?_) (fun cdv A outer s H vs Q E hr h=>?_)
 ·obtain ⟨p,q,es,cs,rfl,_⟩:=h
  rfl
 ·obtain ⟨p,q0,es,cs,rfl,hp,hc,he,hcl,q⟩:=h
  refine ⟨_,pss_cons (ps_set (i:=2) scKnots.nd rfl (Or.inl rfl) (pe_lst pa_nil))
   (pss_cons (ps_for PassesOwn.never rfl (pi_range1 (by rfl) mrange (pa_cons (pe_op op_add (pe_callB call_len_seq (by rfl) mlen PySem.boot_len (pa_cons (pv 0) pa_nil)) pe_int) pa_nil)) (pg_name (i:=3) scKnots.nd rfl (Or.inl rfl)) (pss_one (ps_for PassesOwn.never rfl (pi_range1 (by rfl) mrange (pa_cons (pe_op op_add (pe_callB call_len_seq (by rfl) mlen PySem.boot_len (pa_cons (pv 1) pa_nil)) pe_int) pa_nil)) (pg_name (i:=4) scKnots.nd rfl (Or.inl rfl)) (pss_one (ps_expr (pe_bm PySem.F.plainAttrs_list PySem.F.slot_list_append PySem.F.type_list_append mt_append (pv 2) (pa_cons (pe_tup (pa_cons (pv 3) (pa_cons (pv 4) pa_nil))) pa_nil)))))))
   (pss_one (ps_ret (pv 2)))),?_⟩
  refine ⟨Nat.zero_le _,fun l hl=>?_⟩
  have S0:=same_upd (o:=.lst []) hl
  refine ⟨_,rfl,p,_,rfl,.inr (sameT S0 hp),_,_,rfl,rfl,_,rfl,by omega,by omega,?_⟩
  rw [show ((es.length:Int)+1).toNat=es.length+1 by omega]
  refine for_range (fun i σ H2=>∃ (as:List Addr) (v3 v4:Option V),σ=[some (.ref p),some (.ref q0),some (.ref l),v3,v4]/\H2 l=some (.lst (as.map V.ref))/\Same H H2/\(∀ k a,as[k]?=some a->H2 a=some (.tup (knotV cs.length k)))/\as.length=i * (cs.length+1))
   ⟨[],none,none,rfl,upd_same,S0,(fun k a z=>by simp at z),by simp⟩ ?_ ?_
  ·rintro i σ H2 hi ⟨as,v3,v4,rfl,h2,S2,hA,hal⟩
   have ei:(0:Int)+((i:Nat):Int)=((i:Nat):Int):=by omega
   have hbig:i * (cs.length+1)<=40 * 41:=Nat.mul_le_mul (by omega) (by omega)
   rw [ei]
   refine ⟨_,rfl,q0,_,rfl,.inr (sameT S2 hc),_,_,rfl,rfl,_,rfl,by omega,by omega,?_⟩
   rw [show ((cs.length:Int)+1).toNat=cs.length+1 by omega]
   refine for_range (fun j σ H3=>∃ (bs:List Addr) (v4:Option V),σ=[some (.ref p),some (.ref q0),some (.ref l),some (.int ((i:Nat):Int)),v4]/\H3 l=some (.lst (bs.map V.ref))/\Same H H3/\(∀ k a,bs[k]?=some a->H3 a=some (.tup (knotV cs.length k)))/\bs.length=i * (cs.length+1)+j)
    ⟨as,v4,rfl,h2,S2,hA,by omega⟩ ?_ ?_
   ·rintro j σ H3 hj ⟨bs,v4,rfl,h3,S3,hB,hbl⟩
    have ej:(0:Int)+((j:Nat):Int)=((j:Nat):Int):=by omega
    rw [ej]
    refine ⟨_,rfl,.inl ⟨rfl,_,SqL.of h3⟩,_,rfl,_,rfl,few (by show 2<=_;omega),fun t ht=>?_⟩
    have St:=same_upd (o:=.tup [.int ((i:Nat):Int),.int ((j:Nat):Int)]) ht
    have k3:=St _ _ h3
    refine ⟨l,_,_,rfl,rfl,k3,(by rw [List.length_map];exact fewer (by omega)),bs++[t],_,rfl,by rw [upd_same,List.map_append];rfl,same_to (S3.trans St) hl,fun k a ha=>?_,by rw [List.length_append,hbl];rfl⟩
    have keepT:∀ {x:Addr} {ys:List V},upd H3 t (.tup [.int ((i:Nat):Int),.int ((j:Nat):Int)]) x=some (.tup ys)->upd (upd H3 t (.tup [.int ((i:Nat):Int),.int ((j:Nat):Int)])) l (.lst (bs.map V.ref++[.ref t])) x=some (.tup ys):=fun {x ys} h=>by
     have:x ≠ l:=fun z=>by rw [z,k3] at h;cases h
     rw [upd_ne this];exact h
    by_cases hk:k < bs.length
    ·rw [List.getElem?_append_left hk] at ha
     exact keepT (St _ _ (hB k a ha))
    ·have hk2:k - bs.length=0:=by
      have:=(List.getElem?_eq_some_iff.mp ha).1
      rw [List.length_append] at this
      have:k < bs.length+1:=this
      omega
     rw [List.getElem?_append_right (by omega),hk2] at ha
     have hat:t=a:=Option.some.inj ha
     have hkk:k=i * (cs.length+1)+j:=by omega
     rw [hkk,knotV_at hj,<-hat]
     exact keepT upd_same
   ·rintro σ H3 ⟨bs,v4,rfl,h3,S3,hB,hbl⟩
    exact ⟨bs,_,_,rfl,h3,S3,hB,by rw [hbl,Nat.add_mul];omega⟩
  ·rintro σ H2 ⟨as,v3,v4,rfl,h2,S2,hA,hal⟩
   exact ⟨_,rfl,q _ l as S2 h2 hal hA⟩
theorem pe_two {X:Cx} {a b:Int} {j1 j2 k:Nat} {p1 p2 pos:Pos}:PE X (.Tuple [.Constant (.int a) j1 p1,.Constant (.int b) j2 p2] k pos) (tTup (tCons (tC (.int a)) (tCons (tC (.int b)) tNil))):=pe_tup (pa_cons pe_int (pa_cons pe_int pa_nil))
abbrev tw (a b:Int):TE:=tTup (tCons (tC (.int a)) (tCons (tC (.int b)) tNil))
theorem pe_disp6 {X:Cx} {pos:Pos} {k1 k2 k3 k4 k5 k6 v1 v2 v3 v4 v5 v6:Expr} {a1 a2 a3 a4 a5 a6 b1 b2 b3 b4 b5 b6:TE} (h1:PE X k1 a1) (g1:PE X v1 b1) (h2:PE X k2 a2) (g2:PE X v2 b2) (h3:PE X k3 a3) (g3:PE X v3 b3) (h4:PE X k4 a4) (g4:PE X v4 b4) (h5:PE X k5 a5) (g5:PE X v5 b5) (h6:PE X k6 a6) (g6:PE X v6 b6):PE X (.Dict [some k1,some k2,some k3,some k4,some k5,some k6] [v1,v2,v3,v4,v5,v6] pos) (tDisp [(a1,b1),(a2,b2),(a3,b3),(a4,b4),(a5,b5),(a6,b6)]):=
 have x7:PPs X pos [] [] []:=pps_nil
 have x6:PPs X pos [some k6] [v6] [(a6,b6)]:=pps_cons h6 g6 x7
 have x5:PPs X pos [some k5,some k6] [v5,v6] [(a5,b5),(a6,b6)]:=pps_cons h5 g5 x6
 have x4:PPs X pos [some k4,some k5,some k6] [v4,v5,v6] [(a4,b4),(a5,b5),(a6,b6)]:=pps_cons h4 g4 x5
 have x3:PPs X pos [some k3,some k4,some k5,some k6] [v3,v4,v5,v6] [(a3,b3),(a4,b4),(a5,b5),(a6,b6)]:=pps_cons h3 g3 x4
 have x2:PPs X pos [some k2,some k3,some k4,some k5,some k6] [v2,v3,v4,v5,v6] [(a2,b2),(a3,b3),(a4,b4),(a5,b5),(a6,b6)]:=pps_cons h2 g2 x3
 have x1:PPs X pos [some k1,some k2,some k3,some k4,some k5,some k6] [v1,v2,v3,v4,v5,v6] [(a1,b1),(a2,b2),(a3,b3),(a4,b4),(a5,b5),(a6,b6)]:=pps_cons h1 g1 x2
 pe_disp x1 rfl rfl (List.cons_ne_nil _ _) (Nat.le_of_ble_eq_true rfl)
abbrev trM:List (TE × TE):=[(tC (.str (Str.ofString "keep")),tw 1 1),(tC (.str (Str.ofString "turn")),tw 1 1),(tC (.str (Str.ofString "lose")),tw 1 0),(tC (.str (Str.ofString "add")),tw 0 1),(tC (.str (Str.ofString "twice")),tw 0 1),(tC (.str (Str.ofString "swap")),tw 2 2)]
def movesE:Expr:=.Dict [some (.Constant (.str "keep") 0 ⟨253,13,253,19⟩),some (.Constant (.str "turn") 0 ⟨253,29,253,35⟩),some (.Constant (.str "lose") 0 ⟨253,45,253,51⟩),some (.Constant (.str "add") 0 ⟨253,61,253,66⟩),some (.Constant (.str "twice") 0 ⟨253,76,253,83⟩),some (.Constant (.str "swap") 0 ⟨253,93,253,99⟩)] [.Tuple [.Constant (.int 1) 0 ⟨253,22,253,23⟩,.Constant (.int 1) 0 ⟨253,25,253,26⟩] 0 ⟨253,21,253,27⟩,.Tuple [.Constant (.int 1) 0 ⟨253,38,253,39⟩,.Constant (.int 1) 0 ⟨253,41,253,42⟩] 0 ⟨253,37,253,43⟩,.Tuple [.Constant (.int 1) 0 ⟨253,54,253,55⟩,.Constant (.int 0) 0 ⟨253,57,253,58⟩] 0 ⟨253,53,253,59⟩,.Tuple [.Constant (.int 0) 0 ⟨253,69,253,70⟩,.Constant (.int 1) 0 ⟨253,72,253,73⟩] 0 ⟨253,68,253,74⟩,.Tuple [.Constant (.int 0) 0 ⟨253,86,253,87⟩,.Constant (.int 1) 0 ⟨253,89,253,90⟩] 0 ⟨253,85,253,91⟩,.Tuple [.Constant (.int 2) 0 ⟨253,102,253,103⟩,.Constant (.int 2) 0 ⟨253,105,253,106⟩] 0 ⟨253,101,253,107⟩] ⟨253,12,253,108⟩
theorem pe_movesE {X:Cx}:PE X movesE (tDisp trM):=by
 unfold movesE
 refine pe_disp6 ?_ ?_ ?_ ?_ ?_ ?_ ?_ ?_ ?_ ?_ ?_ ?_
 ·exact pe_str
 ·exact pe_two
 ·exact pe_str
 ·exact pe_two
 ·exact pe_str
 ·exact pe_two
 ·exact pe_str
 ·exact pe_two
 ·exact pe_str
 ·exact pe_two
 ·exact pe_str
 ·exact pe_two
theorem sw_movesE {X:Cx}:swapsWith movesE (some (.Name "moves" ⟨253,4,253,9⟩)) (Pos.line ⟨253,4,253,108⟩) X.env=pure false:=rfl
theorem body_end:defBody sEnd=.Assign [.Name "moves" ⟨253,4,253,9⟩] movesE ⟨253,4,253,108⟩ :: (defBody sEnd).tail:=rfl
def endS:Sk->Nat × Nat
 | .keep=>(1,1)
 | .turn _=>(1,1)
 | .lose=>(1,0)
 | .add _=>(0,1)
 | .twice=>(0,1)
 | .swap=>(2,2)
 | .skip m=>(m,0)
theorem ways_end {es cs:List Str} {i j:Nat} {x:Way} (h:x ∈ ways es cs i j):x.2.1=i+(endS x.1).1/\x.2.2=j+(endS x.1).2:=by
 unfold ways at h
 rcases List.mem_append.mp h with h | h
 ·rcases List.mem_append.mp h with h | h
  ·rcases List.mem_append.mp h with h | h
   ·rcases List.mem_append.mp h with h | h
    ·rcases List.mem_append.mp h with h | h
     ·unfold w1 at h
      split at h
      ·rw [List.mem_singleton.mp h]
       dsimp only
       split <;> exact ⟨rfl,rfl⟩
      ·cases h
     ·unfold w2 at h
      split at h
      ·rw [List.mem_singleton.mp h];exact ⟨rfl,rfl⟩
      ·cases h
    ·unfold w3 at h
     split at h
     ·rw [List.mem_singleton.mp h];exact ⟨rfl,rfl⟩
     ·cases h
   ·unfold w4 at h
    split at h
    ·rw [List.mem_singleton.mp h];exact ⟨rfl,rfl⟩
    ·cases h
  ·unfold w5 at h
   split at h
   ·rw [List.mem_singleton.mp h];exact ⟨rfl,rfl⟩
   ·cases h
 ·unfold w6 at h
  obtain ⟨k,hk,rfl⟩:=List.mem_map.mp h
  exact ⟨rfl,rfl⟩
def spEnd (K:PySem.W.Frag):Sp:=fun vs H Q _=>∃ (i j:Nat) (t:Addr) (st:Sk),vs=[.int ((i:Nat):Int),.int ((j:Nat):Int),.ref t]/\SqT K H t (stepV st)/\∀ p,H p=none->Q (.ref p) (upd H p (.tup [.int ((i+(endS st).1:Nat):Int),.int ((j+(endS st).2:Nat):Int)]))
theorem scEnd:FnScope ["i","j","step","moves"] ["i","j","step"] (defScope sEnd):=⟨rfl,rfl,rfl,by decide +kernel,rfl,by decide +kernel,by decide +kernel⟩
def movesK (a b c d e f:Addr):List (Key × V):=[(Sum.inr (Str.ofString "keep"),.ref a),(Sum.inr (Str.ofString "turn"),.ref b),(Sum.inr (Str.ofString "lose"),.ref c),(Sum.inr (Str.ofString "add"),.ref d),(Sum.inr (Str.ofString "twice"),.ref e),(Sum.inr (Str.ofString "swap"),.ref f)]
theorem moves_all (a b c d e f:Addr):valV (mergeK [] (movesK a b c d e f)) (Sum.inr (Str.ofString "keep"))=some (.ref a)/\valV (mergeK [] (movesK a b c d e f)) (Sum.inr (Str.ofString "turn"))=some (.ref b)/\valV (mergeK [] (movesK a b c d e f)) (Sum.inr (Str.ofString "lose"))=some (.ref c)/\valV (mergeK [] (movesK a b c d e f)) (Sum.inr (Str.ofString "add"))=some (.ref d)/\valV (mergeK [] (movesK a b c d e f)) (Sum.inr (Str.ofString "twice"))=some (.ref e)/\valV (mergeK [] (movesK a b c d e f)) (Sum.inr (Str.ofString "swap"))=some (.ref f):=
 ⟨rfl,rfl,rfl,rfl,rfl,rfl⟩
theorem ok_end {f:Addr} {fd:FuncData} (F:Fun K "_law_end" "_law_end" sEnd f fd):FnOk P w K mg base CX0 1 f fd ["i","j","step"] (spEnd K):=by
 refine Fun.okR F scEnd (fun vs H Q E h=>?_) (fun cdv A outer s H vs Q Q2 E hr h hq=>?_)
 ·obtain ⟨i,j,t,st,rfl,_⟩:=h
  rfl
 ·obtain ⟨i,j,t,st,rfl,ht,q⟩:=h
  rw [body_end]
  have hm:∀ X,PE X movesE (tDisp trM):=fun X=>@pe_movesE X
  have hsw:∀ X:Cx,swapsWith movesE (some (.Name "moves" ⟨253,4,253,9⟩)) (Pos.line ⟨253,4,253,108⟩) X.env=pure false:=fun X=>@sw_movesE X
  generalize movesE=mvE at hm hsw
  refine ⟨_,pss_cons (ps_set (i:=3) scEnd.nd rfl (Or.inl rfl) (hm _) (hsw _))
   (pss_cons (ps_if (pt_cmpR op_eq (pe_ix ix_tup (pv 2) pe_int (fun _ _=>rfl)) pe_str (nomark _)) (pss_one (ps_ret (pe_tup (pa_cons (pe_op op_add (pv 0) (pe_ix ix_tup (pv 2) pe_int (fun _ _=>rfl))) (pa_cons (pv 1) pa_nil))))) pss_nil)
   (pss_one (ps_ret (pe_tup (pa_cons (pe_op op_add (pv 0) (pe_ix ix_tup (pe_dat (pv 3) (pe_ix ix_tup (pv 2) pe_int (fun _ _=>rfl)) (fun _ _=>rfl)) pe_int (fun _ _=>rfl))) (pa_cons (pe_op op_add (pv 1) (pe_ix ix_tup (pe_dat (pv 3) (pe_ix ix_tup (pv 2) pe_int (fun _ _=>rfl)) (fun _ _=>rfl)) pe_int (fun _ _=>rfl))) pa_nil)))))),?_⟩
  intro d hd
  have Z:∀ n:Nat,n=2->n<=sizeLine:=fun n e=>few (by omega)
  have T0:=same_upd (o:=.dK []) hd
  refine ⟨Z _ rfl,fun a1 ha1=>⟨Z _ rfl,fun a2 ha2=>⟨Z _ rfl,fun a3 ha3=>⟨Z _ rfl,fun a4 ha4=>⟨Z _ rfl,fun a5 ha5=>⟨Z _ rfl,fun a6 ha6=>?_⟩⟩⟩⟩⟩⟩
  have T1:=same_upd (o:=.tup [.int 1,.int 1]) ha1
  have T2:=same_upd (o:=.tup [.int 1,.int 1]) ha2
  have T3:=same_upd (o:=.tup [.int 1,.int 0]) ha3
  have T4:=same_upd (o:=.tup [.int 0,.int 1]) ha4
  have T5:=same_upd (o:=.tup [.int 0,.int 1]) ha5
  have T6:=same_upd (o:=.tup [.int 2,.int 2]) ha6
  have T16:=((((T1.trans T2).trans T3).trans T4).trans T5).trans T6
  have hd6:=T16 _ _ (upd_same (H:=H) (a:=d) (o:=.dK []))
  have k1:=((((T2.trans T3).trans T4).trans T5).trans T6) _ _ (upd_same (H:=upd H d (.dK [])) (a:=a1) (o:=.tup [.int 1,.int 1]))
  have k2:=(((T3.trans T4).trans T5).trans T6) _ _ (upd_same (a:=a2) (o:=.tup [.int 1,.int 1]))
  have k3:=((T4.trans T5).trans T6) _ _ (upd_same (a:=a3) (o:=.tup [.int 1,.int 0]))
  have k4:=(T5.trans T6) _ _ (upd_same (a:=a4) (o:=.tup [.int 0,.int 1]))
  have k5:=T6 _ _ (upd_same (a:=a5) (o:=.tup [.int 0,.int 1]))
  have k6:=upd_same (H:=upd (upd (upd (upd (upd (upd H d (.dK [])) a1 (.tup [.int 1,.int 1])) a2 (.tup [.int 1,.int 1])) a3 (.tup [.int 1,.int 0])) a4 (.tup [.int 0,.int 1])) a5 (.tup [.int 0,.int 1])) (a:=a6) (o:=.tup [.int 2,.int 2])
  have S6:=T0.trans T16
  refine ⟨hd6,movesK a1 a2 a3 a4 a5 a6,rfl,(by show 6<=15;decide),?_⟩
  generalize upd (upd (upd (upd (upd (upd (upd H d (.dK [])) a1 (.tup [.int 1,.int 1])) a2 (.tup [.int 1,.int 1])) a3 (.tup [.int 1,.int 0])) a4 (.tup [.int 0,.int 1])) a5 (.tup [.int 0,.int 1])) a6 (.tup [.int 2,.int 2])=H6 at hd6 k1 k2 k3 k4 k5 k6 S6
  have S7:Same H (upd H6 d (.dK (mergeK [] (movesK a1 a2 a3 a4 a5 a6)))):=same_to S6 hd
  have h7:upd H6 d (.dK (mergeK [] (movesK a1 a2 a3 a4 a5 a6))) d=some (.dK (mergeK [] (movesK a1 a2 a3 a4 a5 a6))):=upd_same
  have kk:∀ {a:Addr} {xs:List V},H6 a=some (.tup xs)->upd H6 d (.dK (mergeK [] (movesK a1 a2 a3 a4 a5 a6))) a=some (.tup xs):=fun {a xs} h=>by
   rw [upd_ne (ne_of h hd6 (by intro z;cases z))];exact h
  replace k1:=kk k1
  replace k2:=kk k2
  replace k3:=kk k3
  replace k4:=kk k4
  replace k5:=kk k5
  replace k6:=kk k6
  obtain ⟨m1,m2,m3,m4,m5,m6⟩:=moves_all a1 a2 a3 a4 a5 a6
  generalize upd H6 d (.dK (mergeK [] (movesK a1 a2 a3 a4 a5 a6)))=H7 at S7 h7 k1 k2 k3 k4 k5 k6
  have ht7:=sameT S7 ht
  by_cases hsk:∃ n,st=.skip n
  ·obtain ⟨n,rfl⟩:=hsk
   refine ⟨_,rfl,t,_,_,_,rfl,rfl,ht7,atI_nat (j:=0) rfl,rfl,_,rfl,iteY rfl ?_⟩
   refine ⟨_,rfl,_,rfl,t,_,_,_,rfl,rfl,ht7,atI_nat (j:=1) rfl,_,_,rfl,rfl,_,rfl,Z _ rfl,fun p hp=>hq _ _ (Rst.one (S7.trans (same_upd hp)) (S7.free hp) upd_same trivial ?_)⟩
   have:=q p (S7.free hp)
   rw [Int.natCast_add] at this
   exact this
  ·obtain ⟨k,a,x,y,rest,e1,e2,e3,e4,e5⟩:∃ (k:Str) (a:Addr) (x y:Nat) (rest:List V),stepV st=.str k :: rest/\¬ k=Str.ofString "skip"/\valV (mergeK [] (movesK a1 a2 a3 a4 a5 a6)) (Sum.inr k)=some (.ref a)/\H7 a=some (.tup [.int ((x:Nat):Int),.int ((y:Nat):Int)])/\endS st=(x,y):=by
    cases st with
    | keep=>exact ⟨_,a1,1,1,_,rfl,by decide +kernel,m1,k1,rfl⟩
    | turn z=>exact ⟨_,a2,1,1,_,rfl,by decide +kernel,m2,k2,rfl⟩
    | lose=>exact ⟨_,a3,1,0,_,rfl,by decide +kernel,m3,k3,rfl⟩
    | add z=>exact ⟨_,a4,0,1,_,rfl,by decide +kernel,m4,k4,rfl⟩
    | twice=>exact ⟨_,a5,0,1,_,rfl,by decide +kernel,m5,k5,rfl⟩
    | swap=>exact ⟨_,a6,2,2,_,rfl,by decide +kernel,m6,k6,rfl⟩
    | skip n=>exact absurd ⟨n,rfl⟩ hsk
   have e6:atI (stepV st) 0=some (.str k):=atI_nat (j:=0) (by rw [e1];rfl)
   rw [e5] at q
   refine ⟨_,rfl,t,_,_,_,rfl,rfl,ht7,e6,rfl,_,rfl,iteK (fun z=>by injection z with z;exact e2 z) ?_⟩
   refine ⟨_,rfl,_,rfl,_,rfl,t,_,_,_,rfl,rfl,ht7,e6,d,_,Sum.inr k,_,rfl,h7,rfl,e3,a,_,_,_,rfl,rfl,SqT.of e4,atI_nat (j:=0) rfl,_,_,rfl,rfl,_,rfl,_,rfl,_,rfl,t,_,_,_,rfl,rfl,ht7,e6,d,_,Sum.inr k,_,rfl,h7,rfl,e3,a,_,_,_,rfl,rfl,SqT.of e4,atI_nat (j:=1) rfl,_,_,rfl,rfl,Z _ rfl,fun p hp=>hq _ _ (Rst.one (S7.trans (same_upd hp)) (S7.free hp) upd_same trivial ?_)⟩
   have:=q p (S7.free hp)
   rw [Int.natCast_add,Int.natCast_add] at this
   exact this
structure ArmsAt (H:Hp) (as:List Addr) (ws:List Way) (g:Way->Int):Prop where
 len:as.length=ws.length
 item:∀ (k:Nat) (a:Addr) (x:Way),as[k]?=some a->ws[k]?=some x->∃ t e,H a=some (.tup [.ref t,.ref e,.int (g x)])/\H e=some (.tup [.int ((x.2.1:Nat):Int),.int ((x.2.2:Nat):Int)])/\H t=some (.tup (stepV x.1))/\okS x.1
theorem ArmsAt.mono {H H':Hp} {as:List Addr} {ws:List Way} {g:Way->Int} (S:Same H H') (h:ArmsAt H as ws g):ArmsAt H' as ws g:=
 ⟨h.len,fun k a x e1 e2=>by
  obtain ⟨t,e,h1,h2,h3,h4⟩:=h.item k a x e1 e2
  exact ⟨t,e,S _ _ h1,S _ _ h2,S _ _ h3,h4⟩⟩
def spArms (K:PySem.W.Frag):Sp:=fun vs H Q _=>∃ (p q r:Addr) (es cs:List Str) (pr:List Int) (i j:Nat),vs=[.ref p,.ref q,.ref r,.int ((i:Nat):Int),.int ((j:Nat):Int)]/\SqT K H p (es.map V.str)/\SqT K H q (cs.map V.str)/\SqT K H r (pr.map V.int)/\(∀ z ∈ es,Good z)/\(∀ z ∈ cs,Good z)/\i<=es.length/\j<=cs.length/\es.length<=100/\pr.length=7 ∧
 ∀ (H':Hp) (l:Addr) (as:List Addr),Same H H'->H' l=some (.lst (as.map V.ref))->ArmsAt H' as (ways es cs i j) (fun x=>price es i pr x.1)->Q (.ref l) H'
theorem scArms:FnScope ["elder","copy","prices","i","j","arms","step"] ["elder","copy","prices","i","j"] (defScope sArms):=⟨rfl,rfl,rfl,by decide +kernel,rfl,by decide +kernel,by decide +kernel⟩
theorem ok_arms {f gS gE gP:Addr} {fd dS dE dP:FuncData} (F:Fun K "_law_arms" "_law_arms" sArms f fd) (DS:Dfn K mg "_law_steps" sLSteps gS dS ["elder","copy","i","j"]) (GS:FnOk P w K mg base CX0 2 gS dS ["elder","copy","i","j"] (spLSt K)) (DE:Dfn K mg "_law_end" sEnd gE dE ["i","j","step"]) (DP:Dfn K mg "_law_price" sLPrice gP dP ["elder","i","step","prices"]) (GP:FnOk P w K mg base CX0 2 gP dP ["elder","i","step","prices"] (spPrice K)):FnOk P w K mg base CX0 3 f fd ["elder","copy","prices","i","j"] (spArms K):=by
 have GE:FnOk P w K mg base CX0 2 gE dE ["i","j","step"] (spEnd K):=(ok_end DE.fn).mono (by decide)
 refine F.ok scArms (fun vs H Q E h=>?_) (fun cdv A outer s H vs Q E hr h=>?_)
 ·obtain ⟨p,q,r,es,cs,pr,i,j,rfl,_⟩:=h
  rfl
 ·obtain ⟨p,q0,r0,es,cs,pr,i,j,rfl,hp,hc,hpr,hge,hgc,hi,hj,hel,h7,q⟩:=h
  refine ⟨_,pss_cons (ps_set (i:=5) scArms.nd rfl (Or.inl rfl) (pe_lst pa_nil))
   (pss_cons (ps_for PassesOwn.never rfl (pi_list (pe_call GS hr (by rfl) DS.at_ DS.fn.kp DS.bn .nil pass0 (pa_cons (pv 0) (pa_cons (pv 1) (pa_cons (pv 3) (pa_cons (pv 4) pa_nil)))))) (pg_name (i:=6) scArms.nd rfl (Or.inl rfl))
    (pss_one (ps_expr (pe_bm PySem.F.plainAttrs_list PySem.F.slot_list_append PySem.F.type_list_append mt_append (pv 5) (pa_cons (pe_tup (pa_cons (pv 6) (pa_cons (pe_call GE hr (by rfl) DE.at_ DE.fn.kp DE.bn .nil pass0 (pa_cons (pv 3) (pa_cons (pv 4) (pa_cons (pv 6) pa_nil)))) (pa_cons (pe_call GP hr (by rfl) DP.at_ DP.fn.kp DP.bn .nil pass0 (pa_cons (pv 0) (pa_cons (pv 3) (pa_cons (pv 6) (pa_cons (pv 2) pa_nil))))) pa_nil)))) pa_nil)))))
   (pss_one (ps_ret (pv 5)))),?_⟩
  refine ⟨Nat.zero_le _,fun l hl=>?_⟩
  have S0:=same_upd (o:=.lst []) hl
  refine ⟨_,rfl,_,rfl,_,rfl,_,rfl,p,q0,es,cs,i,j,rfl,sameT S0 hp,sameT S0 hc,hi,hj,by omega,hgc,fun H1 ls ts S1 hls hT=>?_⟩
  have hok:=ways_ok (i:=i) (j:=j) (es:=es) hgc (by omega)
  have htn:∀ x ∈ ways es cs i j,turnOk es i x.1:=fun x hx=>by
   cases hx1:x.1 with
   | turn z=>exact ways_turn hx hx1
   | _=>trivial
  have hend:∀ x ∈ ways es cs i j,_:=fun x hx=>ways_end hx
  have hwl:=ways_few (es:=es) (cs:=cs) (i:=i) (j:=j) (by omega)
  generalize ways es cs i j=ws at hT hok htn hend hwl q
  have htl:ts.length=ws.length:=by rw [hT.len,List.length_map]
  have S01:=S0.trans S1
  have hl1:=S1 _ _ (upd_same (H:=H) (a:=l) (o:=.lst []))
  have nls:ls ≠ l\/ts=[]:=by
   by_cases e:ls=l
   ·right
    rw [e,hl1] at hls
    injection hls with h1
    injection h1 with h2
    exact List.map_eq_nil_iff.mp h2.symm
   ·exact .inl e
  refine ⟨ls,rfl,⟨_,SqL.of hls⟩,for_list (K:=K) (a:=ls) (xs:=ts.map V.ref) (fun k σ H2=>∃ (as:List Addr) (v6:Option V),σ=[some (.ref p),some (.ref q0),some (.ref r0),some (.int ((i:Nat):Int)),some (.int ((j:Nat):Int)),some (.ref l),v6]/\H2 l=some (.lst (as.map V.ref))/\(k=0\/ts ≠ [])/\H2 ls=some (.lst (ts.map V.ref))/\TupsAt H2 ts (ws.map (·.1))/\Same H H2/\ArmsAt H2 as (ws.take k) (fun x=>price es i pr x.1))
   ⟨[],none,rfl,hl1,.inl rfl,hls,hT,S01,rfl,fun k a x e=>by simp at e⟩ (fun k σ H2 _ ⟨_,_,_,_,_,h,_⟩=>SqL.of h) ?_ ?_⟩
  ·rintro k y σ H2 hk ⟨as,v6,rfl,h2,_,hls2,hT2,S2,hA⟩
   obtain ⟨t,htk,rfl⟩:=ref_at hk
   have hne:ts ≠ []:=fun z=>by rw [z] at htk;simp at htk
   have nl:ls ≠ l:=nls.resolve_right hne
   have hkl:k < ws.length:=by rw [<-htl];exact (List.getElem?_eq_some_iff.mp htk).1
   have hwk:ws[k]?=some ws[k]:=List.getElem?_eq_getElem hkl
   obtain ⟨ht2,hok2⟩:=hT2.item k t ws[k].1 htk (by rw [List.getElem?_map,hwk];rfl)
   have hxm:ws[k] ∈ ws:=List.getElem_mem hkl
   have hx1:=hok _ hxm
   have hx2:=htn _ hxm
   have hx3:=hend _ hxm
   have htake:ws.take (k+1)=ws.take k++[ws[k]]:=List.take_succ_eq_append_getElem hkl
   generalize ws[k]=x at *
   refine ⟨_,rfl,.inl ⟨rfl,_,SqL.of h2⟩,_,rfl,_,rfl,_,rfl,_,rfl,i,j,t,x.1,rfl,SqT.of ht2,fun e he=>?_⟩
   have S3:=same_upd (o:=.tup [.int ((i+(endS x.1).1:Nat):Int),.int ((j+(endS x.1).2:Nat):Int)]) he
   have S23:=S2.trans S3
   refine ⟨_,rfl,_,rfl,_,rfl,_,rfl,p,t,r0,es,i,x.1,pr,rfl,sameT S23 hp,hge,SqT.of (S3 _ _ ht2),hx1,hx2,sameT S23 hpr,h7,few (by show 3<=_;omega),fun a ha=>?_⟩
   have S4:=same_upd (o:=.tup [.ref t,.ref e,.int (price es i pr x.1)]) ha
   have S34:=S3.trans S4
   have he4:=S4 _ _ (upd_same (H:=H2) (a:=e) (o:=.tup [.int ((i+(endS x.1).1:Nat):Int),.int ((j+(endS x.1).2:Nat):Int)]))
   have ha4:=upd_same (H:=upd H2 e (.tup [.int ((i+(endS x.1).1:Nat):Int),.int ((j+(endS x.1).2:Nat):Int)])) (a:=a) (o:=.tup [.ref t,.ref e,.int (price es i pr x.1)])
   generalize upd (upd H2 e (.tup [.int ((i+(endS x.1).1:Nat):Int),.int ((j+(endS x.1).2:Nat):Int)])) a (.tup [.ref t,.ref e,.int (price es i pr x.1)])=H4 at S34 he4 ha4
   rw [<-hx3.1,<-hx3.2] at he4
   have h4:=S34 _ _ h2
   have keep:∀ {b:Addr} {ys zs:List V},H4 b=some (.tup ys)->upd H4 l (.lst zs) b=some (.tup ys):=fun {b ys zs} h=>by
    rw [upd_ne (ne_of h h4 (by intro z;cases z))];exact h
   have hal:as.length=k:=by rw [hA.len,List.length_take];omega
   refine ⟨l,_,_,rfl,rfl,h4,(by rw [List.length_map,hal];exact fewer (by omega)),as++[a],_,rfl,by rw [upd_same,List.map_append];rfl,.inr hne,by rw [upd_ne nl];exact S34 _ _ hls2,(hT2.mono S34).set h4,same_to (S2.trans S34) hl,?_⟩
   rw [htake]
   refine ⟨by rw [List.length_append,List.length_append,hA.len];rfl,fun n b y hb hy=>?_⟩
   by_cases hn:n < as.length
   ·rw [List.getElem?_append_left hn] at hb
    rw [List.getElem?_append_left (by rw [<-hA.len];exact hn)] at hy
    obtain ⟨t',e',h1,h2,h3,h4⟩:=(hA.mono S34).item n b y hb hy
    exact ⟨t',e',keep h1,keep h2,keep h3,h4⟩
   ·have hn0:n - as.length=0:=by
     rw [List.getElem?_append_right (by omega)] at hb
     have:=(List.getElem?_eq_some_iff.mp hb).1
     simp at this
     omega
    rw [List.getElem?_append_right (by omega),hn0] at hb
    rw [List.getElem?_append_right (by rw [<-hA.len];omega),<-hA.len,hn0] at hy
    have e1:a=b:=by simpa using hb
    have e2:x=y:=by simpa using hy
    subst e1 e2
    exact ⟨t,e,keep ha4,keep he4,keep (S34 _ _ ht2),hok2⟩
  ·rintro σ H2 ⟨as,v6,rfl,h2,_,hls2,hT2,S2,hA⟩
   rw [List.length_map,htl,List.take_length] at hA
   exact ⟨_,rfl,q _ l as S2 h2 hA⟩
structure NumsAt (H:Hp) (t:Addr) (ps:List Addr) (m n:Nat) (F:Nat->Nat->Int):Prop where
 top:H t=some (.tup (ps.map V.ref))
 len:ps.length=m+1
 row:∀ i y,ps[i]?=some y->H y=some (.tup ((List.range (n+1)).map fun j=>V.int (F i j)))
theorem NumsAt.mono {H H':Hp} {t:Addr} {ps:List Addr} {m n:Nat} {F:Nat->Nat->Int} (h:NumsAt H t ps m n F) (S:Same H H'):NumsAt H' t ps m n F:=⟨S _ _ h.top,h.len,fun i y e=>S _ _ (h.row i y e)⟩
theorem nums_line {H:Hp} {t:Addr} {ps:List Addr} {m n:Nat} {F:Nat->Nat->Int} (h:NumsAt H t ps m n F) {i:Nat} (hi:i<=m):∃ y,atI (ps.map V.ref) ((i:Nat):Int)=some (.ref y)/\H y=some (.tup ((List.range (n+1)).map fun j=>V.int (F i j))):=by
 have hl:i < ps.length:=by rw [h.len];omega
 exact ⟨ps[i],atI_nat (by rw [List.getElem?_map,List.getElem?_eq_getElem hl];rfl),h.row i _ (List.getElem?_eq_getElem hl)⟩
theorem nums_at {n j:Nat} (f:Nat->Int) (hj:j<=n):atI ((List.range (n+1)).map fun j=>V.int (f j)) ((j:Nat):Int)=some (.int (f j)):=
 atI_nat (by rw [List.getElem?_map,List.getElem?_range (by omega)];rfl)
theorem atI_last {xs:List V} {v:V} (h:xs[xs.length - 1]?=some v) (h0:0 < xs.length):atI xs (-1)=some v:=by
 unfold atI
 rw [<-h]
 have e:ixN xs.length (-1)=some (xs.length - 1):=by
  unfold ixN
  rw [if_neg (by omega)]
  rw [if_pos (by omega)]
  congr 1
  omega
 rw [e]
 rfl
theorem nums_last {H:Hp} {t:Addr} {ps:List Addr} {m n:Nat} {F:Nat->Nat->Int} (h:NumsAt H t ps m n F):∃ y,atI (ps.map V.ref) (-1)=some (.ref y)/\H y=some (.tup ((List.range (n+1)).map fun j=>V.int (F m j)))/\atI ((List.range (n+1)).map fun j=>V.int (F m j)) (-1)=some (.int (F m n)):=by
 have hl:m < ps.length:=by rw [h.len];omega
 refine ⟨ps[m],atI_last ?_ (by rw [List.length_map];omega),h.row m _ (List.getElem?_eq_getElem hl),atI_last ?_ (by rw [List.length_map,List.length_range];omega)⟩
 ·rw [List.length_map,h.len,Nat.add_sub_cancel,List.getElem?_map,List.getElem?_eq_getElem hl];rfl
 ·rw [List.length_map,List.length_range,Nat.add_sub_cancel,List.getElem?_map,List.getElem?_range (by omega)];rfl
theorem knot_in {m n k:Nat} (h:k < (m+1) * (n+1)):k / (n+1)<=m/\k % (n+1)<=n:=by
 have h1:k / (n+1) < m+1:=Nat.div_lt_of_lt_mul (by rw [Nat.mul_comm];exact h)
 have h2:=Nat.mod_lt k (show 0 < n+1 by omega)
 omega
def kp (i j:Nat):List Key:=[Sum.inl ((i:Nat):Int),Sum.inl ((j:Nat):Int)]
theorem kp_inj {i j a b:Nat} (h:kp i j=kp a b):i=a/\j=b:=by
 unfold kp at h
 injection h with h1 h2
 injection h2 with h2 _
 injection h1 with h1
 injection h2 with h2
 omega
theorem code_lt {m n i j:Nat} (hi:i<=m) (hj:j<=n):i * (n+1)+j < (m+1) * (n+1):=by
 have h1:i * (n+1)<=m * (n+1):=Nat.mul_le_mul_right _ hi
 rw [Nat.succ_mul]
 omega
theorem code_div {n i j:Nat} (hj:j<=n):(i * (n+1)+j) / (n+1)=i/\(i * (n+1)+j) % (n+1)=j:=by
 have h:j < n+1:=by omega
 refine ⟨?_,?_⟩
 ·rw [Nat.mul_comm,Nat.mul_add_div (by omega),Nat.div_eq_of_lt h];rfl
 ·rw [Nat.mul_comm,Nat.mul_add_mod,Nat.mod_eq_of_lt h]
def Sx (d:Addr) (H H':Hp):Prop:=∀ a o,a ≠ d->H a=some o->H' a=some o
theorem Sx.trans {d:Addr} {H H' H'':Hp} (a:Sx d H H') (b:Sx d H' H''):Sx d H H'':=fun c o n e=>b c o n (a c o n e)
theorem Sx.of {d:Addr} {H H':Hp} (S:Same H H'):Sx d H H':=fun c o _ e=>S c o e
theorem Sx.upd {d:Addr} {H:Hp} {o:HO}:Sx d H (upd H d o):=fun c o n e=>by rw [upd_ne n];exact e
theorem tup_dp {P:Program} {w:World} {H:Hp} {a d:Addr} {xs:List V} {ys:List Pk} (h:H a=some (.tup xs)) (h2:H d=some (DP P w d ys)):a ≠ d:=ne_of h h2 (fun z=>nomatch (show HO.tup xs=HO.ext _ from z))
theorem lst_dp {P:Program} {w:World} {H:Hp} {a d:Addr} {xs:List V} {ys:List Pk} (h:H a=some (.lst xs)) (h2:H d=some (DP P w d ys)):a ≠ d:=ne_of h h2 (fun z=>nomatch (show HO.lst xs=HO.ext _ from z))
theorem code_ord {n i j a b:Nat} (hj:j<=n) (hb:b<=n):(i < a\/(a=i/\j < b)) ↔ i * (n+1)+j < a * (n+1)+b:=by
 constructor
 ·rintro (h | ⟨rfl,h⟩)
  ·have:(i+1) * (n+1)<=a * (n+1):=Nat.mul_le_mul_right _ h
   rw [Nat.succ_mul] at this
   omega
  ·omega
 ·intro h
  rcases Nat.lt_trichotomy i a with c | c | c
  ·exact .inl c
  ·subst c
   exact .inr ⟨rfl,by omega⟩
  ·have:(a+1) * (n+1)<=i * (n+1):=Nat.mul_le_mul_right _ c
   rw [Nat.succ_mul] at this
   omega
theorem zip1 {α β:Type} (f:α->V):∀ {xs:List α} {ys:List β},xs.length=ys.length->(xs.zip ys).map (fun x=>f x.1)=xs.map f
 | [],_,_=>by simp
 | x :: xs,[],h=>by simp at h
 | x :: xs,y :: ys,h=>by
  rw [List.zip_cons_cons,List.map_cons,List.map_cons,zip1 f (by simpa using h)]
theorem zip2 {α β γ:Type} (f:β->γ):∀ {xs:List α} {ys:List β},xs.length=ys.length->(xs.zip ys).map (fun x=>f x.2)=ys.map f
 | [],[],_=>by simp
 | [],y :: ys,h=>by simp at h
 | x :: xs,[],h=>by simp at h
 | x :: xs,y :: ys,h=>by
  rw [List.zip_cons_cons,List.map_cons,List.map_cons,zip2 f (by simpa using h)]
def Holds (m n:Nat) (ys:List Pk) (T:Tb):Prop:=∀ i j,i<=m->j<=n->valP ys (kp i j)=(T i j).map V.int
theorem Holds.put {m n i j:Nat} {ys:List Pk} {T:Tb} {b:Addr} {v:Int} (h:Holds m n ys T):Holds m n (putP ys (kp i j) b (.int v)) (T.put i j v):=fun a c ha hc=>by
 rw [valP_put]
 by_cases e:a=i/\c=j
 ·obtain ⟨rfl,rfl⟩:=e
  rw [if_pos rfl,Tb.put_same]
  rfl
 ·rw [if_neg (fun z=>e (kp_inj z)),Tb.put_ne _ _ e]
  exact h a c ha hc
def cheap (es cs:List Str) (pr:List Int) (R:Nat->Nat->Int) (i j:Nat):List Way:=(ways es cs i j).filter fun x=>decide (price es i pr x.1+R x.2.1 x.2.2=R i j)
theorem cheap_in {es cs:List Str} {pr:List Int} {R:Nat->Nat->Int} {i j:Nat} {x:Way} (h:x ∈ cheap es cs pr R i j):x ∈ ways es cs i j/\price es i pr x.1+R x.2.1 x.2.2=R i j:=
 ⟨(List.mem_filter.mp h).1,of_decide_eq_true (List.mem_filter.mp h).2⟩
def Told (es cs:List Str) (pr:List Int) (R:Nat->Nat->Int):Nat->Nat->List Sk->Prop
 | i,j,[]=>i=es.length/\j=cs.length
 | i,j,st :: r=>∃ x,(cheap es cs pr R i j).head?=some x/\x.1=st/\Told es cs pr R x.2.1 x.2.2 r
def spCW (K:PySem.W.Frag):Sp:=fun vs H Q _=>∃ (p q r t:Addr) (es cs:List Str) (pr:List Int) (ps:List Addr) (R:Nat->Nat->Int) (i j:Nat),vs=[.ref p,.ref q,.ref r,.ref t,.int ((i:Nat):Int),.int ((j:Nat):Int)]/\SqT K H p (es.map V.str)/\SqT K H q (cs.map V.str)/\SqT K H r (pr.map V.int)/\(∀ z ∈ es,Good z)/\(∀ z ∈ cs,Good z)/\es.length<=100/\cs.length<=100/\pr.length=7/\NumsAt H t ps es.length cs.length R/\i<=es.length/\j<=cs.length ∧
 ∀ (H':Hp) (l:Addr) (as:List Addr),Same H H'->H' l=some (.lst (as.map V.ref))->WaysAt H' as (cheap es cs pr R i j)->Q (.ref l) H'
theorem scCW:FnScope ["elder","copy","prices","rest","i","j","ways","step","done","written"] ["elder","copy","prices","rest","i","j"] (defScope sCW):=⟨rfl,rfl,rfl,by decide +kernel,rfl,by decide +kernel,by decide +kernel⟩
theorem ok_cw {f gW gP:Addr} {fd dW dP:FuncData} (F:Fun K "cheapest_ways" "cheapest_ways" sCW f fd) (DW:Dfn K mg "knot_ways" sWays gW dW ["elder","copy","i","j"]) (GW:FnOk P w K mg base CX0 2 gW dW ["elder","copy","i","j"] (spWays K)) (DP:Dfn K mg "step_price" sPrice gP dP ["elder","done","step","prices"]) (GP:FnOk P w K mg base CX0 2 gP dP ["elder","done","step","prices"] (spPrice K)):FnOk P w K mg base CX0 3 f fd ["elder","copy","prices","rest","i","j"] (spCW K):=by
 refine F.ok scCW (fun vs H Q E h=>?_) (fun cdv A outer s H vs Q E hr h=>?_)
 ·obtain ⟨p,q,r,t,es,cs,pr,ps,R,i,j,rfl,_⟩:=h
  rfl
 ·obtain ⟨p,q0,r0,t,es,cs,pr,ps,R,i,j,rfl,hp,hc,hpr,hge,hgc,hel,hcl,h7,hN,hi,hj,q⟩:=h
  refine ⟨_,pss_cons (ps_set (i:=6) scCW.nd rfl (Or.inl rfl) (pe_lst pa_nil))
   (pss_cons (ps_for PassesOwn.never rfl (pi_list (pe_call GW hr (by rfl) DW.at_ DW.fn.kp DW.bn .nil pass0 (pa_cons (pv 0) (pa_cons (pv 1) (pa_cons (pv 4) (pa_cons (pv 5) pa_nil)))))) (pg_tup (n:=3) rfl (pgs_cons (pg_name (i:=7) scCW.nd rfl (Or.inl rfl)) (pgs_cons (pg_name (i:=8) scCW.nd rfl (Or.inl rfl)) (pgs_cons (pg_name (i:=9) scCW.nd rfl (Or.inl rfl)) pgs_nil))))
    (pss_one (ps_if (pt_cmpR op_eq (pe_op op_add (pe_call GP hr (by rfl) DP.at_ DP.fn.kp DP.bn .nil pass0 (pa_cons (pv 0) (pa_cons (pv 4) (pa_cons (pv 7) (pa_cons (pv 2) pa_nil))))) (pe_ix ix_tup (pe_ix ix_tup (pv 3) (pv 8) (fun _ _=>rfl)) (pv 9) (fun _ _=>rfl))) (pe_ix ix_tup (pe_ix ix_tup (pv 3) (pv 4) (fun _ _=>rfl)) (pv 5) (fun _ _=>rfl)) (nomark _)) (pss_one (ps_expr (pe_bm PySem.F.plainAttrs_list PySem.F.slot_list_append PySem.F.type_list_append mt_append (pv 6) (pa_cons (pe_tup (pa_cons (pv 7) (pa_cons (pv 8) (pa_cons (pv 9) pa_nil)))) pa_nil)))) pss_nil)))
   (pss_one (ps_ret (pv 6)))),?_⟩
  refine ⟨Nat.zero_le _,fun l hl=>?_⟩
  have S0:=same_upd (o:=.lst []) hl
  refine ⟨_,rfl,_,rfl,_,rfl,_,rfl,p,q0,es,cs,i,j,rfl,sameT S0 hp,sameT S0 hc,hi,hj,by omega,fun H1 lw as S1 hlw hW=>?_⟩
  have hok:=ways_ok (i:=i) (j:=j) (es:=es) hgc (by omega)
  have htn:∀ x ∈ ways es cs i j,turnOk es i x.1:=fun x hx=>by
   cases hx1:x.1 with
   | turn z=>exact ways_turn hx hx1
   | _=>trivial
  have hfw:=ways_fwd es cs i j hi hj
  have hwl:=ways_few (es:=es) (cs:=cs) (i:=i) (j:=j) (by omega)
  unfold cheap at q
  generalize ways es cs i j=ws at hW hok htn hfw hwl q
  have S01:=S0.trans S1
  have hl1:=S1 _ _ (upd_same (H:=H) (a:=l) (o:=.lst []))
  have nlw:lw ≠ l\/as=[]:=by
   by_cases e:lw=l
   ·right
    rw [e,hl1] at hlw
    injection hlw with h1
    injection h1 with h2
    exact List.map_eq_nil_iff.mp h2.symm
   ·exact .inl e
  refine ⟨lw,rfl,⟨_,SqL.of hlw⟩,for_list (K:=K) (a:=lw) (xs:=as.map V.ref) (fun k σ H2=>∃ (bs:List Addr) (v7 v8 v9:Option V),σ=[some (.ref p),some (.ref q0),some (.ref r0),some (.ref t),some (.int ((i:Nat):Int)),some (.int ((j:Nat):Int)),some (.ref l),v7,v8,v9]/\H2 l=some (.lst (bs.map V.ref))/\H2 lw=some (.lst (as.map V.ref))/\WaysAt H2 as ws/\Same H H2/\WaysAt H2 bs ((ws.take k).filter fun x=>decide (price es i pr x.1+R x.2.1 x.2.2=R i j)))
   ⟨[],none,none,none,rfl,hl1,hlw,hW,S01,rfl,fun k a x e=>by simp at e⟩ (fun k σ H2 _ ⟨_,_,_,_,_,_,h,_⟩=>SqL.of h) ?_ ?_⟩
  ·rintro k y σ H2 hk ⟨bs,v7,v8,v9,rfl,h2,hlw2,hW2,S2,hB⟩
   obtain ⟨a,hak,rfl⟩:=ref_at hk
   have hne:as ≠ []:=fun z=>by rw [z] at hak;simp at hak
   have nl:lw ≠ l:=nlw.resolve_right hne
   have hkl:k < ws.length:=by rw [<-hW2.len];exact (List.getElem?_eq_some_iff.mp hak).1
   obtain ⟨ts,ha,hts⟩:=hW2.item k a ws[k] hak (List.getElem?_eq_getElem hkl)
   have hxm:ws[k] ∈ ws:=List.getElem_mem hkl
   have hx:=hfw _ hxm
   have hx1:=hok _ hxm
   have hx2:=htn _ hxm
   have htake:ws.take (k+1)=ws.take k++[ws[k]]:=List.take_succ_eq_append_getElem hkl
   generalize ws[k]=x at *
   have hN2:=hN.mono S2
   obtain ⟨z1,az1,hz1⟩:=nums_line hN2 hx.1
   obtain ⟨z2,az2,hz2⟩:=nums_line hN2 hi
   refine ⟨_,_,rfl,SqT.of ha,rfl,_,_,rfl,_,_,rfl,_,_,rfl,rfl,?_⟩
   refine ⟨_,rfl,_,rfl,_,rfl,_,rfl,p,ts,r0,es,i,x.1,pr,rfl,sameT S2 hp,hge,SqT.of hts,hx1,hx2,sameT S2 hpr,h7,_,rfl,_,rfl,t,_,_,_,rfl,rfl,SqT.of hN2.top,az1,_,rfl,z1,_,_,_,rfl,rfl,SqT.of hz1,nums_at _ hx.2.1,_,_,rfl,rfl,_,rfl,_,rfl,t,_,_,_,rfl,rfl,SqT.of hN2.top,az2,_,rfl,z2,_,_,_,rfl,rfl,SqT.of hz2,nums_at _ hj,rfl,_,rfl,?_⟩
   refine ite2 (fun h=>?_) (fun h=>?_)
   ·have h:=of_decide_eq_true h
    injection h with h
    have ef:(ws.take (k+1)).filter (fun x=>decide (price es i pr x.1+R x.2.1 x.2.2=R i j))=(ws.take k).filter (fun x=>decide (price es i pr x.1+R x.2.1 x.2.2=R i j))++[x]:=by
     rw [htake,List.filter_append,List.filter_cons_of_pos (by exact decide_eq_true h),List.filter_nil]
    refine ⟨_,rfl,.inl ⟨rfl,_,SqL.of h2⟩,_,rfl,_,rfl,_,rfl,few (by show 3<=_;omega),fun b hb=>?_⟩
    have S3:=same_upd (o:=.tup (wayV ts x)) hb
    have h3:=S3 _ _ h2
    have hbl:bs.length<=k:=by rw [hB.len];exact Nat.le_trans (List.length_filter_le _ _) (by rw [List.length_take];omega)
    refine ⟨l,_,_,rfl,rfl,h3,(by rw [List.length_map];exact fewer (by omega)),bs++[b],_,_,_,rfl,by rw [upd_same,List.map_append];rfl,by rw [upd_ne nl];exact S3 _ _ hlw2,(hW2.mono S3).set h3,same_to (S2.trans S3) hl,?_⟩
    rw [ef]
    exact WaysAt.set ((hB.mono S3).app (WaysAt.one upd_same (S3 _ _ hts))) h3
   ·have h:¬ (price es i pr x.1+R x.2.1 x.2.2=R i j):=fun z=>h (decide_eq_true (by show V.int (price es i pr x.1+R x.2.1 x.2.2)=_;rw [z]))
    have ef:(ws.take (k+1)).filter (fun x=>decide (price es i pr x.1+R x.2.1 x.2.2=R i j))=(ws.take k).filter (fun x=>decide (price es i pr x.1+R x.2.1 x.2.2=R i j)):=by
     rw [htake,List.filter_append,List.filter_cons_of_neg (by rw [decide_eq_false h];exact Bool.false_ne_true),List.filter_nil,List.append_nil]
    exact ⟨bs,_,_,_,rfl,h2,hlw2,hW2,S2,by rw [ef];exact hB⟩
  ·rintro σ H2 ⟨bs,v7,v8,v9,rfl,h2,hlw2,hW2,S2,hB⟩
   rw [List.length_map,hW2.len,List.take_length] at hB
   exact ⟨_,rfl,q _ l bs S2 h2 hB⟩
def spFC (K:PySem.W.Frag):Sp:=fun vs H Q _=>∃ (p q r:Addr) (es cs:List Str) (pr:List Int),vs=[.ref p,.ref q,.ref r]/\SqT K H p (es.map V.str)/\SqT K H q (cs.map V.str)/\SqT K H r (pr.map V.int)/\(∀ z ∈ es,Good z)/\(∀ z ∈ cs,Good z)/\es.length<=100/\cs.length<=100/\pr.length=7 ∧
 ∀ (H':Hp) (t:Addr) (ts:List Addr) (sts:List Sk) (R:Nat->Nat->Int),Same H H'->H' t=some (.tup (ts.map V.ref))->TupsAt H' ts sts->Rest (fun i st=>price es i pr st) es.length cs.length (ways es cs) R->Told es cs pr R 0 0 sts->sts.length<=es.length+cs.length->Q (.ref t) H'
theorem scFC:FnScope ["elder","copy","prices","rest","steps","i","j","way"] ["elder","copy","prices"] (defScope sFC):=⟨rfl,rfl,rfl,by decide +kernel,rfl,by decide +kernel,by decide +kernel⟩
theorem ok_fc {f gR gC:Addr} {fd dR dC:FuncData} (F:Fun K "first_cheapest" "first_cheapest" sFC f fd) (DR:Dfn K mg "rest_table" sRtab gR dR ["elder","copy","prices"]) (GR:FnOk P w K mg base CX0 3 gR dR ["elder","copy","prices"] (spRtab K)) (DC:Dfn K mg "cheapest_ways" sCW gC dC ["elder","copy","prices","rest","i","j"]) (GC:FnOk P w K mg base CX0 3 gC dC ["elder","copy","prices","rest","i","j"] (spCW K)) (mlen:mg "len" = none) (mtup:mg "tuple" = none):FnOk P w K mg base CX0 4 f fd ["elder","copy","prices"] (spFC K):=by
 refine F.ok scFC (fun vs H Q E h=>?_) (fun cdv A outer s H vs Q E hr h=>?_)
 ·obtain ⟨p,q,r,es,cs,pr,rfl,_⟩:=h
  rfl
 ·obtain ⟨p,q0,r0,es,cs,pr,rfl,hp,hc,hpr,hge,hgc,hel,hcl,h7,q⟩:=h
  refine ⟨_,pss_cons (ps_set (i:=3) scFC.nd rfl (Or.inl rfl) (pe_call GR hr (by rfl) DR.at_ DR.fn.kp DR.bn .nil pass0 (pa_cons (pv 0) (pa_cons (pv 1) (pa_cons (pv 2) pa_nil)))))
   (pss_cons (ps_set (i:=4) scFC.nd rfl (Or.inl rfl) (pe_lst pa_nil))
   (pss_cons (ps_set (i:=5) scFC.nd rfl (Or.inl rfl) pe_int)
   (pss_cons (ps_set (i:=6) scFC.nd rfl (Or.inl rfl) pe_int)
   (pss_cons (ps_while PassesOwn.never (pw_or (pt_cmpR op_lt (pv 5) (pe_callB call_len_seq (by rfl) mlen PySem.boot_len (pa_cons (pv 0) pa_nil)) (nomark _)) (pw_or1 (pt_cmpR op_lt (pv 6) (pe_callB call_len_seq (by rfl) mlen PySem.boot_len (pa_cons (pv 1) pa_nil)) (nomark _)))).pt
    (pss_cons (ps_set (i:=7) scFC.nd rfl (Or.inl rfl) (pe_ix ix_list (pe_call GC hr (by rfl) DC.at_ DC.fn.kp DC.bn .nil pass0 (pa_cons (pv 0) (pa_cons (pv 1) (pa_cons (pv 2) (pa_cons (pv 3) (pa_cons (pv 5) (pa_cons (pv 6) pa_nil))))))) pe_int (fun _ _=>rfl)))
    (pss_cons (ps_expr (pe_bm PySem.F.plainAttrs_list PySem.F.slot_list_append PySem.F.type_list_append mt_append (pv 4) (pa_cons (pe_ix ix_tup (pv 7) pe_int (fun _ _=>rfl)) pa_nil)))
    (pss_cons (ps_set (i:=5) scFC.nd rfl (Or.inl rfl) (pe_ix ix_tup (pv 7) pe_int (fun _ _=>rfl)))
    (pss_one (ps_set (i:=6) scFC.nd rfl (Or.inl rfl) (pe_ix ix_tup (pv 7) pe_int (fun _ _=>rfl))))))))
   (pss_one (ps_ret (pe_callTy call_tuple_of (by rfl) mtup boot_tuple (pa_cons (pv 4) pa_nil)))))))),?_⟩
  have hle:(es.map V.str).length=es.length:=List.length_map ..
  have hlc:(cs.map V.str).length=cs.length:=List.length_map ..
  refine ⟨_,rfl,_,rfl,_,rfl,p,q0,r0,es,cs,pr,rfl,hp,hc,hpr,hge,hgc,hel,hcl,h7,fun H1 t ps R S1 ht htl hrow hR=>?_⟩
  have hN:NumsAt H1 t ps es.length cs.length R:=⟨ht,htl,hrow⟩
  refine ⟨Nat.zero_le _,fun l hl=>?_⟩
  have S2:=same_upd (o:=.lst []) hl
  obtain ⟨W,hW⟩:∃ W:Nat->L2.St->Hp->Prop,W=fun k σ H3=>∃ (i j:Nat) (ts:List Addr) (sts:List Sk) (v7:Option V),k=(es.length - i)+(cs.length - j)/\i<=es.length/\j<=cs.length/\σ=[some (.ref p),some (.ref q0),some (.ref r0),some (.ref t),some (.ref l),some (.int ((i:Nat):Int)),some (.int ((j:Nat):Int)),v7]/\H3 l=some (.lst (ts.map V.ref))/\TupsAt H3 ts sts/\sts.length<=i+j/\(∀ r,Told es cs pr R i j r->Told es cs pr R 0 0 (sts++r))/\Same H1 H3:=⟨_,rfl⟩
  refine ⟨W,⟨(es.length - 0)+(cs.length - 0),by rw [hW];exact ⟨0,0,[],[],none,rfl,Nat.zero_le _,Nat.zero_le _,rfl,upd_same,TupsAt.nil,Nat.le_refl _,fun r h=>h,S2⟩⟩,?_⟩
  intro k σ H3 hk
  rw [hW] at hk
  obtain ⟨i,j,ts,sts,v7,rfl,hi,hj,rfl,h3,hT,hsl,hto,S3⟩:=hk
  have S13:=S1.trans S3
  by_cases hn:i=es.length/\j=cs.length
  ·obtain ⟨rfl,rfl⟩:=hn
   refine ⟨_,rfl,_,rfl,p,_,rfl,.inr (sameT S13 hp),_,_,rfl,rfl,_,rfl,iteK (by rw [hle];omega) ?_⟩
   refine ⟨_,rfl,_,rfl,q0,_,rfl,.inr (sameT S13 hc),_,_,rfl,rfl,_,rfl,iteK (by rw [hlc];omega) ?_⟩
   refine ⟨_,rfl,l,_,rfl,.inl ⟨SqL.of h3,fun t9 ht9=>?_⟩⟩
   have S9:=same_upd (o:=.tup (ts.map V.ref)) ht9
   have ht0:=hto [] ⟨rfl,rfl⟩
   rw [List.append_nil] at ht0
   exact q _ t9 ts sts R (S13.trans S9) upd_same (hT.mono S9) hR ht0 hsl
  ·refine (fun hG=>⟨_,rfl,_,rfl,p,_,rfl,.inr (sameT S13 hp),_,_,rfl,rfl,_,rfl,ite2 (fun _=>iteT hG) (fun h=>⟨_,rfl,_,rfl,q0,_,rfl,.inr (sameT S13 hc),_,_,rfl,rfl,_,rfl,iteY (by
    have h:¬ (((i:Nat):Int) < ((es.map V.str).length:Int)):=fun z=>h (decide_eq_true z)
    rw [hle] at h
    rw [hlc]
    omega) hG⟩)⟩) ?_
   refine ⟨fun σ' H'=>∃ m',m' < (es.length - i)+(cs.length - j)/\W m' σ' H',fun _ _ z=>z,?_⟩
   refine ⟨_,rfl,_,rfl,_,rfl,_,rfl,_,rfl,_,rfl,p,q0,r0,t,es,cs,pr,ps,R,i,j,rfl,sameT S13 hp,sameT S13 hc,sameT S13 hpr,hge,hgc,hel,hcl,h7,hN.mono S3,hi,hj,fun H4 lc as S4 hlc' hW4=>?_⟩
   obtain ⟨x0,hx0,ex0⟩:=hR.eq i j hi hj hn
   have hcm:x0 ∈ cheap es cs pr R i j:=List.mem_filter.mpr ⟨hx0,decide_eq_true ex0.symm⟩
   obtain ⟨x,xs,hxs⟩:∃ x xs,cheap es cs pr R i j=x :: xs:=by
    cases hch:cheap es cs pr R i j with
    | nil=>rw [hch] at hcm;cases hcm
    | cons x xs=>exact ⟨x,xs,rfl⟩
   have hxm:x ∈ cheap es cs pr R i j:=by rw [hxs];exact List.mem_cons_self ..
   have hxw:=(cheap_in hxm).1
   have hok:=ways_ok (i:=i) (j:=j) (es:=es) hgc (by omega) x hxw
   have hfw:=ways_fwd es cs i j hi hj x hxw
   rw [hxs] at hW4
   obtain ⟨a,as',rfl⟩:∃ a as',as=a :: as':=by
    cases as with
    | nil=>have:=hW4.len;simp at this
    | cons a as'=>exact ⟨a,as',rfl⟩
   obtain ⟨st,ha,hst⟩:=hW4.item 0 a x rfl rfl
   have h4:=S4 _ _ h3
   refine ⟨lc,_,_,_,rfl,rfl,SqL.of hlc',atI_nat (j:=0) rfl,?_⟩
   refine ⟨_,rfl,.inl ⟨rfl,_,SqL.of h4⟩,_,rfl,a,_,_,_,rfl,rfl,SqT.of ha,atI_nat (j:=0) rfl,l,_,_,rfl,rfl,h4,(by rw [List.length_map,hT.len];exact fewer (by omega)),?_⟩
   have keep:∀ {b:Addr} {ys zs:List V},H4 b=some (.tup ys)->upd H4 l (.lst zs) b=some (.tup ys):=fun {b ys zs} h=>by
    rw [upd_ne (ne_of h h4 (by intro z;cases z))];exact h
   refine ⟨_,rfl,a,_,_,_,rfl,rfl,SqT.of (keep ha),atI_nat (j:=1) rfl,?_⟩
   refine ⟨_,rfl,a,_,_,_,rfl,rfl,SqT.of (keep ha),atI_nat (j:=2) rfl,?_⟩
   refine ⟨(es.length - x.2.1)+(cs.length - x.2.2),by omega,?_⟩
   rw [hW]
   refine ⟨x.2.1,x.2.2,ts++[st],sts++[x.1],_,rfl,hfw.1,hfw.2.1,rfl,by rw [upd_same,List.map_append];rfl,((hT.mono S4).app (TupsAt.one hst hok)).set h4,by rw [List.length_append];show _+1<=_;omega,fun r hr'=>?_,same_to (S3.trans S4) hl⟩
   rw [List.append_assoc]
   exact hto _ ⟨x,by rw [hxs];rfl,rfl,hr'⟩
def codeK (n c:Nat):List Key:=kp (c / (n+1)) (c % (n+1))
theorem codeK_at {n i j:Nat} (hj:j<=n):codeK n (i * (n+1)+j)=kp i j:=by
 unfold codeK
 rw [(code_div hj).1,(code_div hj).2]
theorem codeK_inj {n a b:Nat} (h:codeK n a=codeK n b):a=b:=by
 obtain ⟨h1,h2⟩:=kp_inj h
 have e1:=Nat.div_add_mod a (n+1)
 have e2:=Nat.div_add_mod b (n+1)
 rw [h1,h2] at e1
 omega
def Ord (n:Nat) (ys:List Pk):Prop:=∀ c y,ys[c]?=some y->y.1=codeK n c
theorem Ord.new {n:Nat} {ys:List Pk} (h:Ord n ys) (b:Addr) (v:V):putP ys (codeK n ys.length) b v=ys++[(codeK n ys.length,b,v)]:=by
 unfold putP
 rw [if_neg]
 intro z
 obtain ⟨y,hy,ey⟩:=List.any_eq_true.mp z
 obtain ⟨c,hc⟩:=List.mem_iff_getElem?.mp hy
 have e1:=h c y hc
 have e2:=codeK_inj (e1.symm.trans (of_decide_eq_true ey))
 have:=(List.getElem?_eq_some_iff.mp hc).1
 omega
theorem Ord.app {n:Nat} {ys:List Pk} (h:Ord n ys) (b:Addr) (v:V):Ord n (ys++[(codeK n ys.length,b,v)]):=fun c y hc=>by
 by_cases hl:c < ys.length
 ·rw [List.getElem?_append_left hl] at hc
  exact h c y hc
 ·rw [List.getElem?_append_right (by omega)] at hc
  have:=(List.getElem?_eq_some_iff.mp hc).1
  rw [List.length_singleton] at this
  have e:c=ys.length:=by omega
  subst e
  rw [Nat.sub_self] at hc
  cases hc
  rfl
theorem Ord.val {n c:Nat} {ys:List Pk} {y:Pk} (h:Ord n ys) (hc:ys[c]?=some y):valP ys (codeK n c)=some y.2.2:=by
 unfold valP
 have hl:=(List.getElem?_eq_some_iff.mp hc).1
 have e:ys.find? (fun z=>decide (z.1=codeK n c))=some y:=by
  rw [List.find?_eq_some_iff_getElem]
  refine ⟨decide_eq_true (h c y hc),c,hl,(List.getElem?_eq_some_iff.mp hc).2,fun j hj=>?_⟩
  rw [Bool.not_eq_true',decide_eq_false_iff_not]
  intro z
  have:=h j ys[j] (List.getElem?_eq_getElem (by omega))
  have:=codeK_inj (this.symm.trans z)
  omega
 rw [e]
 rfl
def NetAt (H:Hp) (es cs:List Str) (pr:List Int) (R:Nat->Nat->Int) (ys:List Pk):Prop:=∀ c y,ys[c]?=some y->∃ l as,y.2.2=.ref l/\H l=some (.lst (as.map V.ref))/\WaysAt H as (cheap es cs pr R (c / (cs.length+1)) (c % (cs.length+1)))
def spNet (P:Program) (w:World) (K:PySem.W.Frag):Sp:=fun vs H Q _=>∃ (p q r:Addr) (es cs:List Str) (pr:List Int),vs=[.ref p,.ref q,.ref r]/\SqT K H p (es.map V.str)/\SqT K H q (cs.map V.str)/\SqT K H r (pr.map V.int)/\(∀ z ∈ es,Good z)/\(∀ z ∈ cs,Good z)/\es.length<=40/\cs.length<=40/\pr.length=7 ∧
 ∀ (H':Hp) (d:Addr) (ys:List Pk) (R:Nat->Nat->Int),Same H H'->H' d=some (DP P w d ys)->KeysAt H' ys->Ord cs.length ys->ys.length=(es.length+1) * (cs.length+1)->NetAt H' es cs pr R ys->Rest (fun i st=>price es i pr st) es.length cs.length (ways es cs) R->Q (.ref d) H'
theorem scNet:FnScope ["elder","copy","prices","rest","net","i","j"] ["elder","copy","prices"] (defScope sNet):=⟨rfl,rfl,rfl,by decide +kernel,rfl,by decide +kernel,by decide +kernel⟩
theorem ways_keepD {P:Program} {w:World} {H:Hp} {d:Addr} {ys zs:List Pk} {as:List Addr} {ws:List Way} (h:WaysAt H as ws) (hd:H d=some (DP P w d ys)):WaysAt (upd H d (DP P w d zs)) as ws:=by
 refine ⟨h.len,fun k a x e1 e2=>?_⟩
 obtain ⟨t,h1,h2⟩:=h.item k a x e1 e2
 exact ⟨t,by rw [upd_ne (tup_dp h1 hd)];exact h1,by rw [upd_ne (tup_dp h2 hd)];exact h2⟩
theorem ok_net {f gR gC:Addr} {fd dR dC:FuncData} (F:Fun K "cheapest_net" "cheapest_net" sNet f fd) (DR:Dfn K mg "rest_table" sRtab gR dR ["elder","copy","prices"]) (GR:FnOk P w K mg base CX0 3 gR dR ["elder","copy","prices"] (spRtab K)) (DC:Dfn K mg "cheapest_ways" sCW gC dC ["elder","copy","prices","rest","i","j"]) (GC:FnOk P w K mg base CX0 3 gC dC ["elder","copy","prices","rest","i","j"] (spCW K)) (mlen:mg "len" = none) (mrange:mg "range" = none):FnOk P w K mg base CX0 4 f fd ["elder","copy","prices"] (spNet P w K):=by
 refine F.ok scNet (fun vs H Q E h=>?_) (fun cdv A outer s H vs Q E hr h=>?_)
 ·obtain ⟨p,q,r,es,cs,pr,rfl,_⟩:=h
  rfl
 ·obtain ⟨p,q0,r0,es,cs,pr,rfl,hp,hc,hpr,hge,hgc,hel,hcl,h7,q⟩:=h
  refine ⟨_,pss_cons (ps_set (i:=3) scNet.nd rfl (Or.inl rfl) (pe_call GR hr (by rfl) DR.at_ DR.fn.kp DR.bn .nil pass0 (pa_cons (pv 0) (pa_cons (pv 1) (pa_cons (pv 2) pa_nil)))))
   (pss_cons (ps_set (i:=4) scNet.nd rfl (Or.inl rfl) pe_dnewP)
   (pss_cons (ps_for PassesOwn.never rfl (pi_range1 (by rfl) mrange (pa_cons (pe_op op_add (pe_callB call_len_seq (by rfl) mlen PySem.boot_len (pa_cons (pv 0) pa_nil)) pe_int) pa_nil)) (pg_name (i:=5) scNet.nd rfl (Or.inl rfl))
   (pss_one (ps_for PassesOwn.never rfl (pi_range1 (by rfl) mrange (pa_cons (pe_op op_add (pe_callB call_len_seq (by rfl) mlen PySem.boot_len (pa_cons (pv 1) pa_nil)) pe_int) pa_nil)) (pg_name (i:=6) scNet.nd rfl (Or.inl rfl))
   (pss_one (ps_asg (pe_call GC hr (by rfl) DC.at_ DC.fn.kp DC.bn .nil pass0 (pa_cons (pv 0) (pa_cons (pv 1) (pa_cons (pv 2) (pa_cons (pv 3) (pa_cons (pv 5) (pa_cons (pv 6) pa_nil))))))) (pg_sub (pv 4) (pe_tup (pa_cons (pv 5) (pa_cons (pv 6) pa_nil))) (set_dictP hr.units)))))))
   (pss_one (ps_ret (pv 4))))),?_⟩
  have hle:(es.map V.str).length=es.length:=List.length_map ..
  have hlc:(cs.map V.str).length=cs.length:=List.length_map ..
  refine ⟨_,rfl,_,rfl,_,rfl,p,q0,r0,es,cs,pr,rfl,hp,hc,hpr,hge,hgc,by omega,by omega,h7,fun H1 t ps R S1 ht htl hrow hR=>?_⟩
  have hN:NumsAt H1 t ps es.length cs.length R:=⟨ht,htl,hrow⟩
  refine fun d hd=>?_
  have T0:=same_upd (o:=DP P w d []) hd
  have hdH:H d=none:=S1.free hd
  refine ⟨_,rfl,p,_,rfl,.inr (sameT (S1.trans T0) hp),_,_,rfl,rfl,_,rfl,by omega,by omega,?_⟩
  rw [hle,show ((es.length:Int)+1).toNat=es.length+1 by omega]
  refine for_range (n:=es.length+1) (fun i σ H2=>∃ (ys:List Pk) (v5 v6:Option V),σ=[some (.ref p),some (.ref q0),some (.ref r0),some (.ref t),some (.ref d),v5,v6]/\H2 d=some (DP P w d ys)/\KeysAt H2 ys/\Ord cs.length ys/\ys.length=i * (cs.length+1)/\NetAt H2 es cs pr R ys/\Same H1 H2)
   ⟨[],none,none,rfl,upd_same,(fun _ z=>nomatch z),(fun c y e=>by simp at e),(by rw [Nat.zero_mul];rfl),(fun c y e=>by simp at e),T0⟩ ?_ ?_
  ·rintro i σ H2 hi ⟨ys,v5,v6,rfl,h2d,hk2,ho2,hl2,hn2,S2⟩
   have ei:(0:Int)+((i:Nat):Int)=((i:Nat):Int):=by omega
   rw [ei]
   refine ⟨_,rfl,q0,_,rfl,.inr (sameT (S1.trans S2) hc),_,_,rfl,rfl,_,rfl,by omega,by omega,?_⟩
   rw [hlc,show ((cs.length:Int)+1).toNat=cs.length+1 by omega]
   refine for_range (n:=cs.length+1) (fun j σ H3=>∃ (ys:List Pk) (v6:Option V),σ=[some (.ref p),some (.ref q0),some (.ref r0),some (.ref t),some (.ref d),some (.int ((i:Nat):Int)),v6]/\H3 d=some (DP P w d ys)/\KeysAt H3 ys/\Ord cs.length ys/\ys.length=i * (cs.length+1)+j/\NetAt H3 es cs pr R ys/\Same H1 H3)
    ⟨ys,v6,rfl,h2d,hk2,ho2,hl2,hn2,S2⟩ ?_ ?_
   ·rintro j σ H3 hj ⟨ys,v6,rfl,h3d,hk3,ho3,hl3,hn3,S3⟩
    have ej:(0:Int)+((j:Nat):Int)=((j:Nat):Int):=by omega
    rw [ej]
    have S13:=S1.trans S3
    refine ⟨_,rfl,_,rfl,_,rfl,_,rfl,_,rfl,_,rfl,p,q0,r0,t,es,cs,pr,ps,R,i,j,rfl,sameT S13 hp,sameT S13 hc,sameT S13 hpr,hge,hgc,by omega,by omega,h7,hN.mono S3,by omega,by omega,fun H4 l as S4 hl4 hW4=>?_⟩
    refine ⟨_,rfl,_,rfl,_,rfl,few (by show 2<=_;omega),fun b hb=>?_⟩
    have T5:=same_upd (o:=.tup [V.int ((i:Nat):Int),.int ((j:Nat):Int)]) hb
    have h5b:upd H4 b (.tup [V.int ((i:Nat):Int),.int ((j:Nat):Int)]) b=some (.tup ((kp i j).map kV)):=upd_same
    have S35:=S4.trans T5
    have h5d:=S35 _ _ h3d
    have hk5:KeysAt (upd H4 b (.tup [V.int ((i:Nat):Int),.int ((j:Nat):Int)])) ys:=fun y hy=>S35 _ _ (hk3 y hy)
    have h5l:=T5 _ _ hl4
    have hW5:=hW4.mono T5
    have hn5:NetAt (upd H4 b (.tup [V.int ((i:Nat):Int),.int ((j:Nat):Int)])) es cs pr R ys:=fun c y e=>by
     obtain ⟨l',as',e1,e2,e3⟩:=hn3 c y e
     exact ⟨l',as',e1,S35 _ _ e2,e3.mono S35⟩
    generalize upd H4 b (.tup [V.int ((i:Nat):Int),.int ((j:Nat):Int)])=H5 at T5 h5b S35 h5d hk5 h5l hW5 hn5
    have hnum:(i * (cs.length+1)+j)<=41 * 41:=by
     have:=code_lt (m:=es.length) (n:=cs.length) (i:=i) (j:=j) (by omega) (by omega)
     have h2:(es.length+1) * (cs.length+1)<=41 * 41:=Nat.mul_le_mul (by omega) (by omega)
     omega
    refine ⟨d,ys,kp i j,b,rfl,rfl,h5d,hk5,h5b,fewer (by omega),?_⟩
    have ecode:codeK cs.length ys.length=kp i j:=by rw [hl3];exact codeK_at (by omega)
    have enew:=ho3.new b (.ref l)
    have oapp:=ho3.app b (.ref l)
    rw [ecode] at enew oapp
    have hnd:∀ o c zs,H5 c=some (.tup zs)->upd H5 d o c=some (.tup zs):=fun o c zs h=>by rw [upd_ne (tup_dp h h5d)];exact h
    have hk6:=hk5.put (v:=.ref l) h5b (hnd (DP P w d (putP ys (kp i j) b (.ref l))))
    rw [enew] at hk6 ⊢
    refine ⟨_,_,rfl,upd_same,hk6,oapp,by rw [List.length_append,hl3];rfl,fun c y e=>?_,same_to (S3.trans S35) hd⟩
    by_cases hcl':c < ys.length
    ·rw [List.getElem?_append_left hcl'] at e
     obtain ⟨l',as',e1,e2,e3⟩:=hn5 c y e
     exact ⟨l',as',e1,by rw [upd_ne (lst_dp e2 h5d)];exact e2,ways_keepD e3 h5d⟩
    ·rw [List.getElem?_append_right (by omega)] at e
     have:=(List.getElem?_eq_some_iff.mp e).1
     rw [List.length_singleton] at this
     have ec:c=ys.length:=by omega
     subst ec
     rw [Nat.sub_self] at e
     cases e
     refine ⟨l,as,rfl,by rw [upd_ne (lst_dp h5l h5d)];exact h5l,?_⟩
     rw [hl3,(code_div (n:=cs.length) (i:=i) (j:=j) (by omega)).1,(code_div (n:=cs.length) (i:=i) (j:=j) (by omega)).2]
     exact ways_keepD hW5 h5d
   ·rintro σ H3 ⟨ys,v6,rfl,h3d,hk3,ho3,hl3,hn3,S3⟩
    exact ⟨ys,_,_,rfl,h3d,hk3,ho3,by rw [hl3,Nat.succ_mul],hn3,S3⟩
  ·rintro σ H2 ⟨ys,v5,v6,rfl,h2d,hk2,ho2,hl2,hn2,S2⟩
   exact ⟨_,rfl,q _ d ys R (S1.trans S2) h2d hk2 ho2 hl2 hn2 hR⟩
theorem comp_tripG {α:Type} {J:It} {H:Hp} {as:List α} {v:α->V} {y z:α->V} {te:TE} {Q:VK} {rest:L2.St} (I:Nat->List V->Hp->Prop) (hs:∀ i acc H',i<=as.length->I i acc H'->Src J H' (as.map v)) (hz:as.length<=sizeLine) (h0:I 0 [] H)
  (hl:∀ i acc H',I i acc H'->acc.length=i) (hp:∀ i acc H',I i acc H'->∀ a ∈ as,∃ p x,v a=.ref p/\SqT K H' p [x,y a,z a])
  (he:∀ i a x acc H',as[i]?=some a->I i acc H'->∀ k:VK,(∀ x H2,I (i+1) (acc++[x]) H2->k x H2)->te (some x :: some (y a) :: some (z a) :: rest) H' k)
  (hq:∀ acc H',I as.length acc H'->∀ D,H' D=none->Q (.ref D) (upd H' D (.lst acc))):wComp J (gTup K 3 (gCons (gName 0) (gCons (gName 1) (gCons (gName 2) gNil)))) tYes te Q (none :: none :: none :: rest) H:=by
 refine ⟨fun i m σ acc H'=>I i acc H'/\i<=as.length/\m=as.length - i/\∃ o1 o2 o3,σ=o1 :: o2 :: o3 :: rest,⟨as.length,h0,Nat.zero_le _,rfl,none,none,none,rfl⟩,?_⟩
 rintro i m σ acc H' ⟨hI,hi,rfl,o1,o2,o3,rfl⟩
 have hacc:=hl i acc H' hI
 have S:=hs i acc H' hi hI
 by_cases hlt:i < as.length
 ·refine .inr ⟨S.go i (by rw [List.length_map];exact hlt),fun w H1 yl=>?_⟩
  obtain ⟨rfl,hx⟩:=S.yld i w H1 (by rw [List.length_map];exact hlt) yl
  rw [List.getElem?_map,List.getElem?_eq_getElem hlt] at hx
  have hx':v as[i]=w:=Option.some.inj hx
  subst hx'
  obtain ⟨p,x,ep,hpp⟩:=hp i acc H1 hI _ (List.getElem_mem hlt)
  rw [ep]
  refine ⟨p,_,rfl,hpp,rfl,_,_,rfl,_,_,rfl,_,_,rfl,rfl,?_⟩
  show te (some x :: some (y as[i]) :: some (z as[i]) :: rest) H1 _
  exact he i as[i] x acc H1 (List.getElem?_eq_getElem hlt) hI _ fun x H2 h2=>⟨by omega,as.length - (i+1),by omega,h2,hlt,rfl,_,_,_,rfl⟩
 ·have e:i=as.length:=by omega
  subst e
  exact .inl ⟨S.stop _ (by rw [List.length_map];exact Nat.le_refl _),by omega,fun D hD=>hq acc H' hI D hD⟩
def cntF (es cs:List Str) (pr:List Int) (R:Nat->Nat->Int) (T:Tb) (a b:Nat):Int:=if cheap es cs pr R a b=[] then 1 else ((cheap es cs pr R a b).map fun x=>(T x.2.1 x.2.2).getD 0).sum
def CntAt (es cs:List Str) (pr:List Int) (R:Nat->Nat->Int) (T:Tb) (a b:Nat):Prop:=T a b=some (cntF es cs pr R T a b)
theorem cntF_put {es cs:List Str} {pr:List Int} {R:Nat->Nat->Int} {T:Tb} {i j a b:Nat} {v:Int} (ha:a<=es.length) (hb:b<=cs.length) (h:i < a\/(a=i/\j<=b)):cntF es cs pr R (T.put i j v) a b=cntF es cs pr R T a b:=by
 unfold cntF
 have e:(cheap es cs pr R a b).map (fun x=>((T.put i j v) x.2.1 x.2.2).getD 0)=(cheap es cs pr R a b).map fun x=>(T x.2.1 x.2.2).getD 0:=by
  refine List.map_congr_left fun x hx=>?_
  have hw:=ways_fwd es cs a b ha hb x (cheap_in hx).1
  rw [Tb.put_ne _ _ (by omega)]
 rw [e]
theorem cnt_put {es cs:List Str} {pr:List Int} {R:Nat->Nat->Int} {T:Tb} {i j:Nat} {v:Int} (h:∀ a b,a<=es.length->b<=cs.length->(i < a\/(a=i/\j < b))->CntAt es cs pr R T a b) (hv:v=cntF es cs pr R T i j):∀ a b,a<=es.length->b<=cs.length->(i < a\/(a=i/\j<=b))->CntAt es cs pr R (T.put i j v) a b:=by
 intro a b ha hb hab
 unfold CntAt
 rw [cntF_put ha hb hab]
 by_cases e:a=i/\b=j
 ·obtain ⟨rfl,rfl⟩:=e
  rw [Tb.put_same,hv]
 ·rw [Tb.put_ne _ _ e]
  exact h a b ha hb (by omega)
def spMF (P:Program) (w:World):Sp:=fun vs H Q _=>∃ (d0:Addr) (es cs:List Str) (pr:List Int) (R:Nat->Nat->Int) (zs:List Pk),vs=[.ref d0]/\H d0=some (DP P w d0 zs)/\KeysAt H zs/\Ord cs.length zs/\zs.length=(es.length+1) * (cs.length+1)/\NetAt H es cs pr R zs/\es.length<=40/\cs.length<=40 ∧
 ∀ (H':Hp) (d:Addr) (ys:List Pk) (T:Tb),Same H H'->H d=none->H' d=some (DP P w d ys)->KeysAt H' ys->Holds es.length cs.length ys T->(∀ a b,a<=es.length->b<=cs.length->CntAt es cs pr R T a b)->Q (.ref d) H'
theorem scMF:FnScope ["net","many","knot","ways"] ["net"] (defScope sMF):=⟨rfl,rfl,rfl,by decide +kernel,rfl,by decide +kernel,by decide +kernel⟩
theorem nd_sdwm:(["step","done","written","many"]:List Str).Nodup:=by decide +kernel
theorem zip3 {as:List Addr} {ws:List Way} {x:Addr × Way} {H:Hp} (h:WaysAt H as ws) (hx:x ∈ as.zip ws):x.2 ∈ ws/\∃ t,H x.1=some (.tup (wayV t x.2)):=by
 obtain ⟨k,hkz⟩:=List.mem_iff_getElem?.mp hx
 obtain ⟨z1,z2⟩:=List.getElem?_zip_eq_some.mp hkz
 obtain ⟨t,h1,_⟩:=h.item k _ _ z1 z2
 exact ⟨List.mem_of_getElem? z2,t,h1⟩
theorem ok_mf {f:Addr} {fd:FuncData} (F:Fun K "many_from" "many_from" sMF f fd) (mlen:mg "len" = none) (mlist:mg "list" = none) (mrev:mg "reversed" = none) (msum:mg "sum" = none):FnOk P w K mg base CX0 1 f fd ["net"] (spMF P w):=by
 refine F.ok scMF (fun vs H Q E h=>?_) (fun cdv A outer s H vs Q E hr h=>?_)
 ·obtain ⟨d0,es,cs,pr,R,zs,rfl,_⟩:=h
  rfl
 ·obtain ⟨d0,es,cs,pr,R,zs,rfl,h0d,h0k,h0o,h0l,h0n,hel,hcl,q⟩:=h
  refine ⟨_,pss_cons (ps_set (i:=1) scMF.nd rfl (Or.inr rfl) pe_dnewP)
   (pss_cons (ps_for PassesOwn.never rfl (pi_rev (by rfl) mrev (pa_cons (pe_callTy (call_listP rfl) (by rfl) mlist boot_list (pa_cons (pv 0) pa_nil)) pa_nil)) (pg_name (i:=2) scMF.nd rfl (Or.inl rfl))
   (pss_cons (ps_set (i:=3) scMF.nd rfl (Or.inl rfl) (pe_datP rfl rfl hr.units (pv 0) (pv 2) (fun _ _=>rfl)))
   (pss_one (ps_asg (pe_ifExp (pt_cmpR op_gt (pe_callB call_len_seq (by rfl) mlen PySem.boot_len (pa_cons (pv 3) pa_nil)) pe_int (nomark _)) (pe_callB (call_sum rfl) (by rfl) msum boot_sum (pa_cons (pe_comp (Nc:=["step","done","written","many"]) (mp:=[none,none,none,some 1]) rfl (CompOk.of (by rfl)) (pi_list (pv 3)) (fun cl C s H fp=>⟨pg_tupK (K:=K) (n:=3) rfl rfl (pgs_cons (pg_name (i:=0) nd_sdwm rfl (Or.inl rfl)) (pgs_cons (pg_name (i:=1) nd_sdwm rfl (Or.inl rfl)) (pgs_cons (pg_name (i:=2) nd_sdwm rfl (Or.inl rfl)) pgs_nil))),pts_nil,(pe_datP rfl rfl hr.units (pv 3) (pe_tup (pa_cons (pv 1) (pa_cons (pv 2) pa_nil))) (fun _ _=>rfl))⟩)) pa_nil)) pe_int) (pg_sub (pv 1) (pv 2) (set_dictP hr.units))))))
   (pss_one (ps_ret (pv 1)))),?_⟩
  refine fun d hd=>?_
  have T0:=same_upd (o:=DP P w d []) hd
  have nd0:d0 ≠ d:=fun e=>by rw [e,hd] at h0d;cases h0d
  refine ⟨_,rfl,d0,zs,rfl,T0 _ _ h0d,fun lk hlk=>?_⟩
  have T1:=same_upd (o:=.lst (zs.map fun y=>V.ref y.2.1)) hlk
  have h1k:upd (upd H d (DP P w d [])) lk (.lst (zs.map fun y=>V.ref y.2.1)) lk=some (.lst (zs.map fun y=>V.ref y.2.1)):=upd_same
  have h1d:upd (upd H d (DP P w d [])) lk (.lst (zs.map fun y=>V.ref y.2.1)) d=some (DP P w d []):=T1 _ _ upd_same
  have S1:=T0.trans T1
  have n1:=lst_dp h1k h1d
  have lks:(zs.map fun y=>V.ref y.2.1).length=(es.length+1) * (cs.length+1):=by rw [List.length_map];exact h0l
  have hNs:(es.length+1) * (cs.length+1)<=41 * 41:=Nat.mul_le_mul (by omega) (by omega)
  refine ⟨lk,_,rfl,SqL.of h1k,for_rev (K:=K) (a:=lk) (xs:=zs.map fun y=>V.ref y.2.1) (fun t σ H2=>∃ (ys:List Pk) (T:Tb) (v2 v3:Option V),σ=[some (.ref d0),some (.ref d),v2,v3]/\H2 d=some (DP P w d ys)/\KeysAt H2 ys/\ys.length<=t/\Holds es.length cs.length ys T/\(∀ a b,a<=es.length->b<=cs.length->(es.length+1) * (cs.length+1)<=a * (cs.length+1)+b+t->CntAt es cs pr R T a b)/\H2 lk=some (.lst (zs.map fun y=>V.ref y.2.1))/\Same H H2)
   ⟨[],fun _ _=>none,none,none,rfl,h1d,(fun _ z=>nomatch z),Nat.le_refl _,(fun _ _ _ _=>rfl),(fun a b ha hb h=>absurd h (by have:=code_lt ha hb;omega)),h1k,S1⟩ (fun t σ H2 _ ⟨_,_,_,_,_,_,_,_,_,_,h,_⟩=>SqL.of h) ?_ ?_⟩
  ·rintro t y σ H2 ht hy ⟨ys,T,v2,v3,rfl,h2d,hkk,hyl,hHo,hCt,h2k,S2⟩
   rw [lks] at ht hy
   rw [List.getElem?_map] at hy
   obtain ⟨y0,hy0,rfl⟩:=Option.map_eq_some_iff.mp hy
   have hnl:(es.length+1) * (cs.length+1) - 1 - t < (es.length+1) * (cs.length+1):=by omega
   obtain ⟨hi,hj⟩:=knot_in hnl
   have hkey:=h0o _ y0 hy0
   have hval:=h0o.val hy0
   obtain ⟨l,as,el,hl,hW⟩:=h0n _ y0 hy0
   have hb0:=h0k y0 (List.mem_of_getElem? hy0)
   unfold codeK at hkey hval
   have ecode:((es.length+1) * (cs.length+1) - 1 - t) / (cs.length+1) * (cs.length+1)+((es.length+1) * (cs.length+1) - 1 - t) % (cs.length+1)+t+1=(es.length+1) * (cs.length+1):=by
    have:=Nat.div_add_mod ((es.length+1) * (cs.length+1) - 1 - t) (cs.length+1)
    rw [Nat.mul_comm] at this
    omega
   generalize ((es.length+1) * (cs.length+1) - 1 - t) / (cs.length+1)=i at hkey hval hW hi ecode
   generalize ((es.length+1) * (cs.length+1) - 1 - t) % (cs.length+1)=j at hkey hval hW hj ecode
   rw [hkey] at hb0
   have hCI:∀ a b,a<=es.length->b<=cs.length->(i < a\/(a=i/\j < b))->CntAt es cs pr R T a b:=fun x y hx hy h=>hCt x y hx hy (by have:=(code_ord hj hy).mp h;omega)
   have h2b:=S2 _ _ hb0
   have h2z:KeysAt H2 zs:=fun y hy=>S2 _ _ (h0k y hy)
   rw [el] at hval
   refine ⟨_,rfl,_,rfl,d0,zs,kp i j,y0.2.1,.ref l,rfl,rfl,S2 _ _ h0d,h2z,h2b,hval,?_⟩
   have h2l:=S2 _ _ hl
   have hW2:=hW.mono S2
   have hfin:∀ (v:Int) (H5:Hp),v=cntF es cs pr R T i j->Same H2 H5->∃ (ys':List Pk) (T':Tb) (v2' v3':Option V),[some (V.ref d0),some (.ref d),some (.ref y0.2.1),some (.ref l)]=[some (V.ref d0),some (.ref d),v2',v3']/\upd H5 d (DP P w d (putP ys (kp i j) y0.2.1 (.int v))) d=some (DP P w d ys')/\KeysAt (upd H5 d (DP P w d (putP ys (kp i j) y0.2.1 (.int v)))) ys'/\ys'.length<=t+1/\Holds es.length cs.length ys' T'/\(∀ a b,a<=es.length->b<=cs.length->(es.length+1) * (cs.length+1)<=a * (cs.length+1)+b+(t+1)->CntAt es cs pr R T' a b)/\upd H5 d (DP P w d (putP ys (kp i j) y0.2.1 (.int v))) lk=some (.lst (zs.map fun y=>V.ref y.2.1))/\Same H (upd H5 d (DP P w d (putP ys (kp i j) y0.2.1 (.int v)))):=fun v H5 hv S5=>by
    have h5d:=S5 _ _ h2d
    refine ⟨_,T.put i j v,_,_,rfl,upd_same,KeysAt.put (fun y hy=>S5 _ _ (hkk y hy)) (S5 _ _ h2b) (fun c zs h=>by rw [upd_ne (tup_dp h h5d)];exact h),by have:=putP_len ys (kp i j) y0.2.1 (.int v);omega,hHo.put,fun x y hx hy h=>?_,by rw [upd_ne n1];exact S5 _ _ h2k,same_to (S2.trans S5) hd⟩
    refine cnt_put hCI hv x y hx hy ?_
    rcases Nat.lt_or_ge (i * (cs.length+1)+j) (x * (cs.length+1)+y) with c | c
    ·rcases (code_ord hj hy).mpr c with z | ⟨z1,z2⟩
     ·exact .inl z
     ·exact .inr ⟨z1,by omega⟩
    ·have e1:=code_div (i:=x) hy
     have e2:=code_div (i:=i) hj
     have ee:x * (cs.length+1)+y=i * (cs.length+1)+j:=by omega
     rw [ee] at e1
     exact .inr ⟨e1.1.symm.trans e2.1,Nat.le_of_eq (e2.2.symm.trans e1.2)⟩
   have hends:∀ x ∈ cheap es cs pr R i j,∃ u,T x.2.1 x.2.2=some u/\x.2.1<=es.length/\x.2.2<=cs.length:=fun x hx=>by
    have hw:=ways_fwd es cs i j hi hj x (cheap_in hx).1
    exact ⟨_,hCI _ _ hw.1 hw.2.1 (by omega),hw.1,hw.2.1⟩
   have hcl':(cheap es cs pr R i j).length<=1100:=by
    have h1:=ways_few (es:=es) (cs:=cs) (i:=i) (j:=j) (by omega)
    have h2:(cheap es cs pr R i j).length<=(ways es cs i j).length:=List.length_filter_le _ _
    omega
   have hcf:cntF es cs pr R T i j=if cheap es cs pr R i j=[] then 1 else ((cheap es cs pr R i j).map fun x=>(T x.2.1 x.2.2).getD 0).sum:=rfl
   generalize cheap es cs pr R i j=ws at hW hW2 hends hcl' hcf
   have la:(as.map V.ref).length=ws.length:=by rw [List.length_map,hW.len]
   refine ⟨_,rfl,l,_,rfl,.inl (SqL.of h2l),_,_,rfl,rfl,_,rfl,?_⟩
   rw [la]
   by_cases he:ws=[]
   ·refine iteK (by rw [he];show ¬ ((0:Int) < ((0:Nat):Int));decide) ?_
    rw [if_pos he] at hcf
    exact ⟨_,rfl,_,rfl,d,ys,kp i j,y0.2.1,rfl,rfl,h2d,hkk,h2b,fewer (by omega),hfin 1 H2 hcf.symm (Same.refl _)⟩
   ·have hpos:0 < ws.length:=List.length_pos_iff.mpr he
    refine iteY (by show (0:Int) < ((ws.length:Nat):Int);omega) ?_
    rw [if_neg he] at hcf
    have hlz:H2 l=some (.lst ((as.zip ws).map fun x=>V.ref x.1)):=by rw [zip1 V.ref hW.len];exact h2l
    refine ⟨_,rfl,l,rfl,⟨_,SqL.of hlz⟩,comp_tripG (as:=as.zip ws) (v:=fun x=>V.ref x.1) (y:=fun x=>.int ((x.2.2.1:Nat):Int)) (z:=fun x=>.int ((x.2.2.2:Nat):Int)) (fun k acc H3=>acc=((ws.take k).map fun x=>V.int ((T x.2.1 x.2.2).getD 0))/\k<=ws.length/\Same H2 H3)
     (fun k acc H3 _ ⟨_,_,S⟩=>src_list (SqL.of (S _ _ hlz))) (by rw [List.length_zip,hW.len];exact few (by omega)) ⟨by rw [List.take_zero];rfl,Nat.zero_le _,Same.refl _⟩ (fun k acc H3 ⟨e,h,_⟩=>by rw [e,List.length_map,List.length_take];omega) (fun k acc H3 ⟨_,_,S⟩ x hx=>?_) ?_ ?_⟩
    ·obtain ⟨_,tt,ht⟩:=zip3 hW2 hx
     exact ⟨x.1,.ref tt,rfl,SqT.of (S _ _ ht)⟩
    ·rintro k x x0 acc H3 hxk ⟨rfl,hkl,S3⟩ kc hkc
     obtain ⟨z1,z2⟩:=List.getElem?_zip_eq_some.mp hxk
     obtain ⟨u,hu,hw1,hw2⟩:=hends _ (List.mem_of_getElem? z2)
     have hkw:k < ws.length:=(List.getElem?_eq_some_iff.mp z2).1
     refine ⟨_,rfl,_,rfl,_,rfl,few (by show 2<=_;omega),fun b4 hb4=>?_⟩
     have T4:=same_upd (o:=.tup [V.int ((x.2.2.1:Nat):Int),.int ((x.2.2.2:Nat):Int)]) hb4
     refine ⟨d,ys,kp x.2.2.1 x.2.2.2,b4,.int u,rfl,rfl,T4 _ _ (S3 _ _ h2d),(fun y hy=>T4 _ _ (S3 _ _ (hkk y hy))),upd_same,(by rw [hHo _ _ hw1 hw2,hu];rfl),hkc _ _ ⟨?_,hkw,S3.trans T4⟩⟩
     rw [List.take_add_one,z2,List.map_append]
     show _=_++[V.int ((T x.2.2.1 x.2.2.2).getD 0)]
     rw [hu]
     rfl
    ·rintro acc H3 ⟨rfl,_,S3⟩ D hD
     have lz:(as.zip ws).length=ws.length:=by rw [List.length_zip,hW.len,Nat.min_self]
     rw [lz,List.take_length]
     have SD:=same_upd (o:=.lst (ws.map fun x=>V.int ((T x.2.1 x.2.2).getD 0))) hD
     refine ⟨D,(ws.map fun x=>(T x.2.1 x.2.2).getD 0),rfl,SqL.of (by rw [upd_same,List.map_map];rfl),?_⟩
     have S5:=S3.trans SD
     exact ⟨_,rfl,_,rfl,d,ys,kp i j,y0.2.1,rfl,rfl,S5 _ _ h2d,(fun y hy=>S5 _ _ (hkk y hy)),S5 _ _ h2b,fewer (by omega),hfin _ _ hcf.symm S5⟩
  ·rintro σ H2 ⟨ys,T,v2,v3,rfl,h2d,hkk,hyl,hHo,hCt,h2k,S2⟩
   rw [lks] at hCt
   exact ⟨_,rfl,q _ d ys T S2 hd h2d hkk hHo fun a b ha hb=>hCt a b ha hb (by omega)⟩
theorem sqT_modI {K:PySem.W.Frag} {a:Addr} {n:Nat} {t1 t2:Tok} {i j:Int} (h:K.lookup a=some ⟨.type "tuple",none,.seq #[.int i t1,.int j t2] n,#[]⟩) (H:Hp):SqT K H a [.int i,.int j]:=
 .inr ⟨_,_,n,h,rfl,rfl,few (by show 2<=_;omega),.cons ⟨_,rfl⟩ (.cons ⟨_,rfl⟩ .nil)⟩
def spCM (K:PySem.W.Frag):Sp:=fun vs H Q _=>∃ (p q r:Addr) (es cs:List Str) (pr:List Int),vs=[.ref p,.ref q,.ref r]/\SqT K H p (es.map V.str)/\SqT K H q (cs.map V.str)/\SqT K H r (pr.map V.int)/\(∀ z ∈ es,Good z)/\(∀ z ∈ cs,Good z)/\es.length<=40/\cs.length<=40/\pr.length=7 ∧
 ∀ (H':Hp) (R:Nat->Nat->Int) (T:Tb) (v:Int),Same H H'->Rest (fun i st=>price es i pr st) es.length cs.length (ways es cs) R->(∀ a b,a<=es.length->b<=cs.length->CntAt es cs pr R T a b)->T 0 0=some v->Q (.int v) H'
theorem scCM:FnScope ["elder","copy","prices"] ["elder","copy","prices"] (defScope sCM):=⟨rfl,rfl,rfl,by decide +kernel,rfl,by decide +kernel,by decide +kernel⟩
theorem ok_cm {f gN gM aS:Addr} {fd dN dM:FuncData} (F:Fun K "cheapest_many" "cheapest_many" sCM f fd) (DN:Dfn K mg "cheapest_net" sNet gN dN ["elder","copy","prices"]) (GN:FnOk P w K mg base CX0 4 gN dN ["elder","copy","prices"] (spNet P w K)) (DM:Dfn K mg "many_from" sMF gM dM ["net"]) (GM:FnOk P w K mg base CX0 4 gM dM ["net"] (spMF P w)) (mS:mg "START" = some (.ref aS)) (hS:∀ H,SqT K H aS [.int 0,.int 0]):FnOk P w K mg base CX0 5 f fd ["elder","copy","prices"] (spCM K):=by
 refine F.ok scCM (fun vs H Q E h=>?_) (fun cdv A outer s H vs Q E hr h=>?_)
 ·obtain ⟨p,q,r,es,cs,pr,rfl,_⟩:=h
  rfl
 ·obtain ⟨p,q0,r0,es,cs,pr,rfl,hp,hc,hpr,hge,hgc,hel,hcl,h7,q⟩:=h
  refine ⟨_,pss_one (ps_ret (pe_datS rfl rfl rfl hr.units (pe_call GM hr (by rfl) DM.at_ DM.fn.kp DM.bn .nil pass0 (pa_cons (pe_call GN hr (by rfl) DN.at_ DN.fn.kp DN.bn .nil pass0 (pa_cons (pv 0) (pa_cons (pv 1) (pa_cons (pv 2) pa_nil)))) pa_nil)) (pe_glob (v:=.ref aS) (by rfl) mS rfl) (fun _ _=>rfl))),?_⟩
  refine ⟨_,rfl,_,rfl,_,rfl,p,q0,r0,es,cs,pr,rfl,hp,hc,hpr,hge,hgc,hel,hcl,h7,fun H1 d0 zs R S1 h1d h1k h1o h1l h1n hR=>?_⟩
  refine ⟨d0,es,cs,pr,R,zs,rfl,h1d,h1k,h1o,h1l,h1n,hel,hcl,fun H2 d ys T S2 _ h2d h2k hHo hCt=>?_⟩
  have e0:=hCt 0 0 (Nat.zero_le _) (Nat.zero_le _)
  refine ⟨d,ys,kp 0 0,aS,_,rfl,rfl,h2d,h2k,hS H2,(by rw [hHo 0 0 (Nat.zero_le _) (Nat.zero_le _),e0];rfl),?_⟩
  exact q H2 R T _ (S1.trans S2) hR hCt e0
def isK:Sk->Bool
 | .keep=>true
 | _=>false
theorem sum_one {p q:Nat->Int} {z:Nat}:∀ {N:Nat},z < N->(∀ x,x < N->x ≠ z->q x=p x)->((List.range N).map q).sum=((List.range N).map p).sum+(q z - p z)
 | 0,hz,_=>by omega
 | N+1,hz,h=>by
  rw [List.range_succ,List.map_append,List.map_append,List.sum_append,List.sum_append]
  show _+(q N+0)=_+(p N+0)+_
  by_cases e:z=N
  ·subst e
   have:(List.range z).map q=(List.range z).map p:=List.map_congr_left fun x hx=>by
    have:=List.mem_range.mp hx
    exact h x (by omega) (by omega)
   rw [this]
   omega
  ·have ih:=sum_one (p:=p) (q:=q) (N:=N) (by omega) fun x hx=>h x (by omega)
   have:=h N (by omega) (fun x=>e x.symm)
   rw [ih]
   omega
theorem sum_zero {p:Nat->Int} {N:Nat} (h:∀ x,x < N->p x=0):((List.range N).map p).sum=0:=by
 induction N with
 | zero=>rfl
 | succ N ih=>
  rw [List.range_succ,List.map_append,List.sum_append,ih fun x hx=>h x (by omega)]
  show 0+(p N+0)=0
  rw [h N (by omega)]
  rfl
theorem sum_nn {α:Type} {f:α->Int}:∀ {l:List α},(∀ x ∈ l,0<=f x)->0<=(l.map f).sum
 | [],_=>Int.le_refl _
 | x :: l,h=>by
  rw [List.map_cons,List.sum_cons]
  have h1:=h x List.mem_cons_self
  have h2:=sum_nn (l:=l) fun y hy=>h y (List.mem_cons_of_mem _ hy)
  omega
theorem sum_pos {α:Type} {f:α->Int}:∀ {l:List α},(∀ x ∈ l,0<=f x)->(0 < (l.map f).sum ↔ ∃ x ∈ l,0 < f x)
 | [],_=>⟨fun h=>absurd h (Int.lt_irrefl _),fun ⟨_,h,_⟩=>nomatch h⟩
 | x :: l,h=>by
  rw [List.map_cons,List.sum_cons]
  have h1:=h x List.mem_cons_self
  have hl:∀ y ∈ l,0<=f y:=fun y hy=>h y (List.mem_cons_of_mem _ hy)
  have h2:=sum_nn hl
  have ih:=sum_pos hl
  constructor
  ·intro hp
   by_cases c:0 < f x
   ·exact ⟨x,List.mem_cons_self,c⟩
   ·obtain ⟨y,hy,hy2⟩:=ih.mp (by omega)
    exact ⟨y,List.mem_cons_of_mem _ hy,hy2⟩
  ·rintro ⟨y,hy,hy2⟩
   rcases List.mem_cons.mp hy with rfl | hy
   ·omega
   ·have:=ih.mpr ⟨y,hy,hy2⟩
    omega
theorem sum_le {α:Type} {f:α->Int} {B:Int}:∀ {l:List α},(∀ x ∈ l,f x<=B)->(l.map f).sum<=(l.length:Int) * B
 | [],_=>by simp
 | x :: l,h=>by
  rw [List.map_cons,List.sum_cons,List.length_cons,Int.natCast_add,Int.add_mul]
  have h1:=h x List.mem_cons_self
  have h2:=sum_le (l:=l) fun y hy=>h y (List.mem_cons_of_mem _ hy)
  omega
theorem sum_split {α:Type} {f:α->Int} (p:α->Bool):∀ (l:List α),(l.map f).sum=((l.filter fun x=>!p x).map f).sum+((l.filter p).map f).sum
 | []=>rfl
 | x :: l=>by
  have ih:=sum_split (f:=f) p l
  rw [List.map_cons,List.sum_cons]
  cases h:p x with
  | true=>
   rw [List.filter_cons_of_neg (by simp [h]),List.filter_cons_of_pos h,List.map_cons,List.sum_cons]
   omega
  | false=>
   rw [List.filter_cons_of_pos (by simp [h]),List.filter_cons_of_neg (by simp [h]),List.map_cons,List.sum_cons]
   omega
def flow (N c:Nat) (u f g:Nat->Int):Int:=((List.range N).map fun x=>u x * (if x < c then g x else f x)).sum
theorem flow_put {N c z:Nat} {u f g:Nat->Int} {h:Int} (hz:z < N) (hc:c<=z):flow N c (fun x=>if x=z then u z+h else u x) f g=flow N c u f g+h * f z:=by
 unfold flow
 rw [sum_one (z:=z) (p:=fun x=>u x * (if x < c then g x else f x)) hz fun x _ hx=>by (try dsimp only);rw [if_neg hx]]
 try dsimp only
 rw [if_pos rfl,if_neg (by omega),Int.add_mul]
 omega
theorem flow_next {N c:Nat} {u f g:Nat->Int} (hc:c < N):flow N (c+1) u f g=flow N c u f g+u c * (g c - f c):=by
 unfold flow
 rw [sum_one (z:=c) (p:=fun x=>u x * (if x < c then g x else f x)) hc fun x _ hx=>by
  try dsimp only
  by_cases e:x < c
  ·rw [if_pos e,if_pos (by omega)]
  ·rw [if_neg e,if_neg (by omega)]]
 try dsimp only
 rw [if_pos (by omega),if_neg (by omega),Int.mul_sub]
def uOf (n:Nat) (T:Tb) (x:Nat):Int:=(T (x / (n+1)) (x % (n+1))).getD 0
def fOf (n:Nat) (f:Nat->Nat->Int) (x:Nat):Int:=f (x / (n+1)) (x % (n+1))
def gOf (n:Nat) (W:Nat->Nat->List Way) (f:Nat->Nat->Int) (x:Nat):Int:=f (x / (n+1)) (x % (n+1)) - ((W (x / (n+1)) (x % (n+1))).map fun y=>f y.2.1 y.2.2).sum
def FlowAt (m n:Nat) (W:Nat->Nat->List Way) (c:Nat) (T:Tb):Prop:=∀ f:Nat->Nat->Int,flow ((m+1) * (n+1)) c (uOf n T) (fOf n f) (gOf n W f)=f 0 0
theorem uOf_put {n i j:Nat} {T:Tb} {v:Int} (hj:j<=n):uOf n (T.put i j v)=fun x=>if x=i * (n+1)+j then v else uOf n T x:=by
 funext x
 unfold uOf
 by_cases e:x=i * (n+1)+j
 ·rw [if_pos e,e,(code_div hj).1,(code_div hj).2,Tb.put_same]
  rfl
 ·rw [if_neg e,Tb.put_ne]
  rintro ⟨h1,h2⟩
  have:=Nat.div_add_mod x (n+1)
  rw [h1,h2,Nat.mul_comm] at this
  omega
theorem uOf_at {n i j:Nat} {T:Tb} (hj:j<=n):uOf n T (i * (n+1)+j)=(T i j).getD 0:=by
 unfold uOf
 rw [(code_div hj).1,(code_div hj).2]
def pushed (T:Tb) (h:Int) (ws:List Way):Tb:=ws.foldl (fun T x=>T.put x.2.1 x.2.2 ((T x.2.1 x.2.2).getD 0+h)) T
theorem flow_pushed {m n c:Nat} {h:Int} {f g:Nat->Int}:∀ (ws:List Way) (T:Tb),(∀ x ∈ ws,x.2.1<=m/\x.2.2<=n/\c<=x.2.1 * (n+1)+x.2.2)->flow ((m+1) * (n+1)) c (uOf n (pushed T h ws)) f g=flow ((m+1) * (n+1)) c (uOf n T) f g+h * (ws.map fun x=>f (x.2.1 * (n+1)+x.2.2)).sum
 | [],T,_=>by
  show flow _ c (uOf n T) f g=_+h * 0
  omega
 | x :: ws,T,hw=>by
  obtain ⟨h1,h2,h3⟩:=hw x List.mem_cons_self
  show flow _ c (uOf n (pushed (T.put x.2.1 x.2.2 ((T x.2.1 x.2.2).getD 0+h)) h ws)) f g=_
  rw [flow_pushed ws _ fun y hy=>hw y (List.mem_cons_of_mem _ hy),uOf_put h2,<-uOf_at (T:=T) h2,flow_put (code_lt h1 h2) h3,List.map_cons,List.sum_cons,Int.mul_add]
  omega
theorem flow_step {m n c:Nat} {W:Nat->Nat->List Way} {T:Tb} (hW:Fwd m n W) (hc:c < (m+1) * (n+1)) (h:FlowAt m n W c T):FlowAt m n W (c+1) (pushed T (uOf n T c) (W (c / (n+1)) (c % (n+1)))):=by
 intro f
 have hi:c / (n+1)<=m:=Nat.le_of_lt_succ (Nat.div_lt_of_lt_mul (by rw [Nat.mul_comm];exact hc))
 have hj:c % (n+1)<=n:=Nat.le_of_lt_succ (Nat.mod_lt _ (Nat.succ_pos _))
 have ec:=Nat.div_add_mod c (n+1)
 rw [Nat.mul_comm] at ec
 rw [flow_pushed _ _ fun x hx=>by
  obtain ⟨a1,a2,a3,a4,a5⟩:=hW _ _ hi hj x hx
  refine ⟨a1,a2,?_⟩
  rcases a5 with a5 | a5
  ·have:=(code_ord (n:=n) (i:=c / (n+1)) (j:=c % (n+1)) (a:=x.2.1) (b:=x.2.2) hj a2).mp (.inl a5)
   omega
  ·rcases Nat.lt_or_ge (c / (n+1)) x.2.1 with z | z
   ·have:=(code_ord (n:=n) (i:=c / (n+1)) (j:=c % (n+1)) (a:=x.2.1) (b:=x.2.2) hj a2).mp (.inl z)
    omega
   ·have:=(code_ord (n:=n) (i:=c / (n+1)) (j:=c % (n+1)) (a:=x.2.1) (b:=x.2.2) hj a2).mp (.inr ⟨by omega,a5⟩)
    omega]
 rw [flow_next hc,h f]
 have e1:gOf n W f c - fOf n f c=- ((W (c / (n+1)) (c % (n+1))).map fun y=>f y.2.1 y.2.2).sum:=by
  unfold gOf fOf
  omega
 have e2:(W (c / (n+1)) (c % (n+1))).map (fun x=>fOf n f (x.2.1 * (n+1)+x.2.2))=(W (c / (n+1)) (c % (n+1))).map fun y=>f y.2.1 y.2.2:=List.map_congr_left fun x hx=>by
  obtain ⟨a1,a2,_⟩:=hW _ _ hi hj x hx
  unfold fOf
  rw [(code_div a2).1,(code_div a2).2]
 rw [e1,e2,Int.mul_neg]
 omega
theorem flow_zero {m n:Nat} {W:Nat->Nat->List Way}:FlowAt m n W 0 (Tb.put (fun _ _=>none) 0 0 1):=by
 intro f
 have hN:0 < (m+1) * (n+1):=Nat.mul_pos (Nat.succ_pos _) (Nat.succ_pos _)
 unfold flow
 rw [sum_one (z:=0) (p:=fun _=>0) hN fun x _ hx=>by
  try dsimp only
  rw [uOf_put (Nat.zero_le _)]
  try dsimp only
  rw [if_neg (by omega)]
  show (0:Int) * _=0
  rw [Int.zero_mul]]
 rw [sum_zero fun _ _=>rfl,uOf_put (Nat.zero_le _)]
 try dsimp only
 rw [if_pos (by omega),if_neg (Nat.lt_irrefl _)]
 unfold fOf
 rw [Nat.zero_div,Nat.zero_mod]
 omega
def avo (W:Nat->Nat->List Way) (i j:Nat):Nat->Nat->Nat->Int
 | 0,_,_=>1
 | k+1,a,b=>if W a b=[] then 1 else (((W a b).filter fun x=>!(isK x.1 && decide (a=i/\b=j))).map fun x=>avo W i j k x.2.1 x.2.2).sum
def avoid (m n:Nat) (W:Nat->Nat->List Way) (i j a b:Nat):Int:=avo W i j ((m - a)+(n - b)) a b
section
variable {m n i j:Nat} {W:Nat->Nat->List Way}
theorem avo_fuel (hW:Fwd m n W) (hE:W m n=[]):∀ (k l a b:Nat),a<=m->b<=n->(m - a)+(n - b)<=k->(m - a)+(n - b)<=l->avo W i j k a b=avo W i j l a b
 | 0,0,_,_,_,_,_,_=>rfl
 | 0,l+1,a,b,ha,hb,h1,h2=>by
  obtain rfl:a=m:=by omega
  obtain rfl:b=n:=by omega
  show 1=if W a b=[] then 1 else _
  rw [if_pos hE]
 | k+1,0,a,b,ha,hb,h1,h2=>by
  obtain rfl:a=m:=by omega
  obtain rfl:b=n:=by omega
  show (if W a b=[] then 1 else _)=1
  rw [if_pos hE]
 | k+1,l+1,a,b,ha,hb,h1,h2=>by
  unfold avo
  by_cases e:W a b=[]
  ·rw [if_pos e,if_pos e]
  ·rw [if_neg e,if_neg e]
   congr 1
   refine List.map_congr_left fun x hx=>?_
   have hw:=hW a b ha hb x (List.mem_filter.mp hx).1
   exact avo_fuel hW hE k l x.2.1 x.2.2 hw.1 hw.2.1 (by omega) (by omega)
theorem avoid_step (hW:Fwd m n W) (hE:W m n=[]) {a b:Nat} (ha:a<=m) (hb:b<=n) (hn:W a b ≠ []):avoid m n W i j a b=(((W a b).filter fun x=>!(isK x.1 && decide (a=i/\b=j))).map fun x=>avoid m n W i j x.2.1 x.2.2).sum:=by
 have hd:¬ (a=m/\b=n):=fun z=>hn (by rw [z.1,z.2];exact hE)
 obtain ⟨d,hd⟩:∃ d,(m - a)+(n - b)=d+1:=⟨(m - a)+(n - b) - 1,by omega⟩
 unfold avoid
 rw [hd]
 show (if W a b=[] then 1 else _)=_
 rw [if_neg hn]
 congr 1
 refine List.map_congr_left fun x hx=>?_
 have hw:=hW a b ha hb x (List.mem_filter.mp hx).1
 exact avo_fuel hW hE _ _ x.2.1 x.2.2 hw.1 hw.2.1 (by omega) (Nat.le_refl _)
theorem avoid_end:avoid m n W i j m n=1:=by
 unfold avoid
 rw [Nat.sub_self,Nat.sub_self]
 rfl
def Cnt (m n:Nat) (W:Nat->Nat->List Way) (t:Nat->Nat->Int):Prop:=∀ a b,a<=m->b<=n->t a b=if W a b=[] then 1 else ((W a b).map fun x=>t x.2.1 x.2.2).sum
theorem Cnt.pos {t:Nat->Nat->Int} (hW:Fwd m n W) (h:Cnt m n W t):∀ (k a b:Nat),a<=m->b<=n->(m - a)+(n - b)<=k->1<=t a b
 | k,a,b,ha,hb,hk=>by
  rw [h a b ha hb]
  split
  ·decide
  ·rename_i e
   have hp:∀ x ∈ W a b,0 < t x.2.1 x.2.2:=fun x hx=>by
    have hw:=hW a b ha hb x hx
    match k,hk with
    | 0,hk=>omega
    | k+1,hk=>
     have:=Cnt.pos hW h k x.2.1 x.2.2 hw.1 hw.2.1 (by omega)
     omega
   obtain ⟨x,hx⟩:=List.exists_mem_of_ne_nil _ e
   have:=(sum_pos fun x hx=>Int.le_of_lt (hp x hx)).mpr ⟨x,hx,hp x hx⟩
   omega
theorem Cnt.low {t:Nat->Nat->Int} (hW:Fwd m n W) (h:Cnt m n W t) {B:Nat} (hB:∀ a b,(W a b).length<=B) (hB1:1<=B):∀ (k a b:Nat),a<=m->b<=n->(m - a)+(n - b)<=k->t a b<=(B:Int) ^ k
 | k,a,b,ha,hb,hk=>by
  rw [h a b ha hb]
  split
  ·exact_mod_cast Nat.one_le_pow k B hB1
  ·match k,hk with
   | 0,hk=>
    have e:(W a b).map (fun x=>t x.2.1 x.2.2)=[]:=by
     rw [List.map_eq_nil_iff]
     rcases hx:W a b with _ | ⟨x,r⟩
     ·rfl
     ·have hw:=hW a b ha hb x (by rw [hx];exact List.mem_cons_self)
      omega
    rw [e,Int.pow_zero]
    decide
   | k+1,hk=>
    have h1:=sum_le (l:=W a b) (f:=fun x=>t x.2.1 x.2.2) (B:=(B:Int) ^ k) fun x hx=>by
     have hw:=hW a b ha hb x hx
     exact Cnt.low hW h hB hB1 k x.2.1 x.2.2 hw.1 hw.2.1 (by omega)
    have h2:((W a b).length:Int)<=(B:Int):=by exact_mod_cast hB a b
    have h3:(0:Int)<=(B:Int) ^ k:=Int.pow_nonneg (by omega)
    have h4:=Int.mul_le_mul_of_nonneg_right h2 h3
    rw [Int.pow_succ,Int.mul_comm]
    omega
theorem avoid_cnt {t:Nat->Nat->Int} (hW:Fwd m n W) (hE:W m n=[]) (h:Cnt m n W t):∀ (k a b:Nat),a<=m->b<=n->(m - a)+(n - b)<=k->(i < a\/∀ x ∈ W i j,isK x.1=false)->avoid m n W i j a b=t a b
 | k,a,b,ha,hb,hk,hc=>by
  rw [h a b ha hb]
  by_cases e:W a b=[]
  ·rw [if_pos e]
   unfold avoid
   rcases hd:(m - a)+(n - b) with _ | d
   ·rfl
   ·show (if W a b=[] then 1 else _)=_
    rw [if_pos e]
  ·rw [if_neg e,avoid_step hW hE ha hb e]
   have ef:((W a b).filter fun x=>!(isK x.1 && decide (a=i/\b=j)))=W a b:=List.filter_eq_self.mpr fun x hx=>by
    rcases hc with hc | hc
    ·rw [decide_eq_false (by omega),Bool.and_false]
     rfl
    ·by_cases z:a=i/\b=j
     ·rw [z.1,z.2] at hx
      rw [hc x hx]
      rfl
     ·rw [decide_eq_false z,Bool.and_false]
      rfl
   rw [ef]
   congr 1
   refine List.map_congr_left fun x hx=>?_
   have hw:=hW a b ha hb x hx
   match k,hk with
   | 0,hk=>omega
   | k+1,hk=>exact avoid_cnt hW hE h k x.2.1 x.2.2 hw.1 hw.2.1 (by omega) (hc.imp (fun z=>by omega) id)
theorem over_keep {t:Nat->Nat->Int} {U:Tb} (hW:Fwd m n W) (hE:W m n=[]) (hS:∀ a b,a<=m->b<=n->¬ (a=m/\b=n)->W a b ≠ []) (h:Cnt m n W t) (hF:FlowAt m n W ((m+1) * (n+1)) U) (hi:i < m) (hj:j < n) (hk:(W i j).filter (fun x=>isK x.1)=[(.keep,i+1,j+1)]) :
  (U i j).getD 0 * t (i+1) (j+1)=t 0 0 - avoid m n W i j 0 0:=by
 have hlt:∀ a b,a<=m->b<=n->a * (n+1)+b < (m+1) * (n+1):=fun a b ha hb=>code_lt ha hb
 have hNe:∀ x,x < (m+1) * (n+1)->x ≠ m * (n+1)+n->¬ (x / (n+1)=m/\x % (n+1)=n):=fun x hx hxe z=>by
  have:=Nat.div_add_mod x (n+1)
  rw [z.1,z.2,Nat.mul_comm] at this
  omega
 have hin:∀ x,x < (m+1) * (n+1)->x / (n+1)<=m/\x % (n+1)<=n:=fun x hx=>⟨Nat.le_of_lt_succ (Nat.div_lt_of_lt_mul (by rw [Nat.mul_comm];exact hx)),Nat.le_of_lt_succ (Nat.mod_lt _ (Nat.succ_pos _))⟩
 have hl:=hlt m n (Nat.le_refl _) (Nat.le_refl _)
 have e1:t 0 0=uOf n U (m * (n+1)+n):=by
  rw [<-hF t]
  unfold flow
  rw [sum_one (z:=m * (n+1)+n) (p:=fun _=>0) hl fun x hx hxe=>by
   try dsimp only
   rw [if_pos hx]
   unfold gOf
   have hne:=hS _ _ (hin x hx).1 (hin x hx).2 (hNe x hx hxe)
   rw [h _ _ (hin x hx).1 (hin x hx).2,if_neg hne,Int.sub_self,Int.mul_zero]]
  rw [sum_zero fun _ _=>rfl]
  try dsimp only
  rw [if_pos hl]
  unfold gOf
  rw [(code_div (Nat.le_refl n)).1,(code_div (Nat.le_refl n)).2,h m n (Nat.le_refl _) (Nat.le_refl _),if_pos hE,hE]
  show 0+(_ * (1 - 0) - 0)=_
  omega
 have hkn:i * (n+1)+j < (m+1) * (n+1):=hlt i j (by omega) (by omega)
 have hkne:i * (n+1)+j ≠ m * (n+1)+n:=by
  have:=(code_ord (n:=n) (i:=i) (j:=j) (a:=m) (b:=n) (by omega) (Nat.le_refl _)).mp (.inl hi)
  omega
 have hgk:gOf n W (avoid m n W i j) (i * (n+1)+j)=- avoid m n W i j (i+1) (j+1):=by
  unfold gOf
  rw [(code_div (by omega)).1,(code_div (by omega)).2]
  have hne:W i j ≠ []:=hS i j (by omega) (by omega) (by omega)
  rw [sum_split (fun x=>isK x.1),hk,avoid_step hW hE (by omega) (by omega) hne]
  have ef:((W i j).filter fun x=>!(isK x.1 && decide (i=i/\j=j)))=(W i j).filter fun x=>!isK x.1:=List.filter_congr fun x _=>by
   rw [decide_eq_true ⟨rfl,rfl⟩,Bool.and_true]
  rw [ef]
  show _ - (_+(avoid m n W i j (i+1) (j+1)+0))=_
  omega
 have e2:avoid m n W i j 0 0=uOf n U (m * (n+1)+n) - uOf n U (i * (n+1)+j) * avoid m n W i j (i+1) (j+1):=by
  rw [<-hF (avoid m n W i j)]
  unfold flow
  rw [sum_one (z:=m * (n+1)+n) (p:=fun x=>if x=i * (n+1)+j then uOf n U x * gOf n W (avoid m n W i j) x else 0) hl fun x hx hxe=>by
   try dsimp only
   rw [if_pos hx]
   by_cases ek:x=i * (n+1)+j
   ·rw [if_pos ek]
   ·rw [if_neg ek]
    have hne:=hS _ _ (hin x hx).1 (hin x hx).2 (hNe x hx hxe)
    unfold gOf
    rw [avoid_step hW hE (hin x hx).1 (hin x hx).2 hne]
    have ef:((W (x / (n+1)) (x % (n+1))).filter fun y=>!(isK y.1 && decide (x / (n+1)=i/\x % (n+1)=j)))=W (x / (n+1)) (x % (n+1)):=List.filter_eq_self.mpr fun y _=>by
     rw [decide_eq_false,Bool.and_false]
     ·rfl
     ·intro z
      have:=Nat.div_add_mod x (n+1)
      rw [z.1,z.2,Nat.mul_comm] at this
      omega
    rw [ef,Int.sub_self,Int.mul_zero]]
  rw [sum_one (z:=i * (n+1)+j) (p:=fun _=>0) hkn fun x _ hx=>by (try dsimp only);rw [if_neg hx]]
  rw [sum_zero fun _ _=>rfl]
  try dsimp only
  rw [if_pos hl,if_pos rfl,if_neg (fun z=>hkne z.symm),hgk]
  unfold gOf
  rw [(code_div (Nat.le_refl n)).1,(code_div (Nat.le_refl n)).2,hE,avoid_end,Int.mul_neg]
  show 0+(_ - 0)+(_ * (1 - 0) - 0)=_
  omega
 have e3:=avoid_cnt (i:=i) (j:=j) hW hE h _ (i+1) (j+1) (by omega) (by omega) (Nat.le_refl _) (.inl (by omega))
 rw [e3,uOf_at (i:=i) (j:=j) (by omega)] at e2
 omega
end
theorem filt_nil {α:Type} {p:α->Bool} {l:List α} (h:∀ x ∈ l,p x=false):l.filter p=[]:=List.filter_eq_nil_iff.mpr fun x hx=>by rw [h x hx];exact Bool.false_ne_true
theorem keep_ways (es cs:List Str) (i j:Nat):(ways es cs i j).filter (fun x=>isK x.1)=if i < es.length/\j < cs.length/\gt es i=gt cs j then [(.keep,i+1,j+1)] else []:=by
 unfold ways
 rw [List.filter_append,List.filter_append,List.filter_append,List.filter_append,List.filter_append]
 have e2:(w2 es i j).filter (fun x=>isK x.1)=[]:=filt_nil fun x hx=>by
  unfold w2 at hx
  split at hx
  ·rw [List.mem_singleton.mp hx];rfl
  ·cases hx
 have e3:(w3 cs i j).filter (fun x=>isK x.1)=[]:=filt_nil fun x hx=>by
  unfold w3 at hx
  split at hx
  ·rw [List.mem_singleton.mp hx];rfl
  ·cases hx
 have e4:(w4 cs i j).filter (fun x=>isK x.1)=[]:=filt_nil fun x hx=>by
  unfold w4 at hx
  split at hx
  ·rw [List.mem_singleton.mp hx];rfl
  ·cases hx
 have e5:(w5 es cs i j).filter (fun x=>isK x.1)=[]:=filt_nil fun x hx=>by
  unfold w5 at hx
  split at hx
  ·rw [List.mem_singleton.mp hx];rfl
  ·cases hx
 have e6:(w6 es i j).filter (fun x=>isK x.1)=[]:=filt_nil fun x hx=>by
  unfold w6 at hx
  obtain ⟨k,_,rfl⟩:=List.mem_map.mp hx
  rfl
 rw [e2,e3,e4,e5,e6,List.append_nil,List.append_nil,List.append_nil,List.append_nil,List.append_nil]
 unfold w1
 by_cases h:i < es.length/\j < cs.length
 ·rw [if_pos h]
  by_cases g:gt es i=gt cs j
  ·rw [if_pos g,if_pos ⟨h.1,h.2,g⟩]
   rfl
  ·rw [if_neg g,if_neg (fun z=>g z.2.2)]
   rfl
 ·rw [if_neg h,if_neg (fun z=>h ⟨z.1,z.2.1⟩)]
  rfl
section
variable {es cs:List Str} {pr:List Int} {R Rb:Nat->Nat->Int} {i j:Nat}
theorem cheap_fwd:Fwd es.length cs.length (cheap es cs pr R):=fun a b ha hb x hx=>ways_fwd es cs a b ha hb x (cheap_in hx).1
theorem cheap_none:cheap es cs pr R es.length cs.length=[]:=by
 unfold cheap
 rw [ways_none]
 rfl
theorem cheap_some (hR:Rest (fun i st=>price es i pr st) es.length cs.length (ways es cs) R):∀ a b,a<=es.length->b<=cs.length->¬ (a=es.length/\b=cs.length)->cheap es cs pr R a b ≠ []:=fun a b ha hb hn z=>by
 obtain ⟨x,hx,ex⟩:=hR.eq a b ha hb hn
 have:x ∈ cheap es cs pr R a b:=List.mem_filter.mpr ⟨hx,decide_eq_true ex.symm⟩
 rw [z] at this
 cases this
theorem ways_len (es cs:List Str) (i j:Nat):(ways es cs i j).length<=es.length+5:=by
 have l6:(w6 es i j).length<=es.length:=by
  unfold w6 skips
  rw [List.length_map]
  split
  ·exact Nat.zero_le _
  ·rw [List.length_map]
   exact Nat.le_trans (List.length_filter_le _ _) (by rw [List.length_range];omega)
 have l1:(w1 es cs i j).length<=1:=by unfold w1;split <;> simp
 have l2:(w2 es i j).length<=1:=by unfold w2;split <;> simp
 have l3:(w3 cs i j).length<=1:=by unfold w3;split <;> simp
 have l4:(w4 cs i j).length<=1:=by unfold w4;split <;> simp
 have l5:(w5 es cs i j).length<=1:=by unfold w5;split <;> simp
 unfold ways
 simp only [List.length_append]
 omega
theorem cnt_of {T:Tb} (h:∀ a b,a<=es.length->b<=cs.length->CntAt es cs pr R T a b):Cnt es.length cs.length (cheap es cs pr R) fun a b=>(T a b).getD 0:=fun a b ha hb=>by
 show (T a b).getD 0=_
 rw [h a b ha hb]
 rfl
def sureP (es cs:List Str) (pr:List Int) (R:Nat->Nat->Int) (U T:Tb) (i j:Nat):Prop:=(Sk.keep,i+1,j+1) ∈ cheap es cs pr R i j/\(U i j).getD 0 * (T (i+1) (j+1)).getD 0=(T 0 0).getD 0
theorem keep_cheap (h:(Sk.keep,i+1,j+1) ∈ cheap es cs pr R i j):i < es.length/\j < cs.length/\gt es i=gt cs j/\(cheap es cs pr R i j).filter (fun x=>isK x.1)=[(.keep,i+1,j+1)]:=by
 have hm:(Sk.keep,i+1,j+1) ∈ (ways es cs i j).filter (fun x=>isK x.1):=List.mem_filter.mpr ⟨(cheap_in h).1,rfl⟩
 rw [keep_ways] at hm
 split at hm
 ·rename_i c
  refine ⟨c.1,c.2.1,c.2.2,?_⟩
  have e:(cheap es cs pr R i j).filter (fun x=>isK x.1)=((ways es cs i j).filter fun x=>isK x.1).filter fun x=>decide (price es i pr x.1+R x.2.1 x.2.2=R i j):=by
   unfold cheap
   rw [List.filter_filter,List.filter_filter]
   exact List.filter_congr fun x _=>Bool.and_comm ..
  rw [e,keep_ways,if_pos c]
  exact List.filter_eq_self.mpr fun x hx=>by rw [List.mem_singleton.mp hx];exact decide_eq_true (cheap_in h).2
 ·cases hm
theorem over {U T:Tb} (hR:Rest (fun i st=>price es i pr st) es.length cs.length (ways es cs) R) (hT:∀ a b,a<=es.length->b<=cs.length->CntAt es cs pr R T a b) (hF:FlowAt es.length cs.length (cheap es cs pr R) ((es.length+1) * (cs.length+1)) U) (h:(Sk.keep,i+1,j+1) ∈ cheap es cs pr R i j) :
  (U i j).getD 0 * (T (i+1) (j+1)).getD 0=(T 0 0).getD 0 - avoid es.length cs.length (cheap es cs pr R) i j 0 0:=by
 obtain ⟨h1,h2,_,h3⟩:=keep_cheap h
 exact over_keep cheap_fwd cheap_none (cheap_some hR) (cnt_of hT) hF h1 h2 h3
theorem over_small {U T:Tb} (hT:∀ a b,a<=es.length->b<=cs.length->CntAt es cs pr R T a b) (h:(Sk.keep,i+1,j+1) ∈ cheap es cs pr R i j)
  (he:es.length<=5) (hc:cs.length<=5):IntMulOk ((U i j).getD 0) ((T (i+1) (j+1)).getD 0):=by
 obtain ⟨h1,h2,_,_⟩:=keep_cheap h
 have hp:=(cnt_of hT).pos cheap_fwd _ (i+1) (j+1) (by omega) (by omega) (Nat.le_refl _)
 have hl:=(cnt_of hT).low cheap_fwd (B:=10) (fun a b=>Nat.le_trans (List.length_filter_le ..) (Nat.le_trans (ways_len es cs a b) (by omega))) (by decide) 8 (i+1) (j+1) (by omega) (by omega) (by omega)
 have h10:((10:Nat):Int) ^ 8=100000000:=by decide
 rw [h10] at hl
 exact IntMulOk.of_right (intBits_le_64 (by omega) (by omega))
end
def Tx (H H':Hp):Prop:=∀ b x,(∀ f,x ≠ HO.ext f)->H b=some x->H' b=some x
theorem Tx.of {H H':Hp} (S:Same H H'):Tx H H':=fun b x _ e=>S b x e
theorem Tx.trans {H H' H'':Hp} (a:Tx H H') (b:Tx H' H''):Tx H H'':=fun c x n e=>b c x n (a c x n e)
theorem Tx.upd {H:Hp} {d:Addr} {f:Heap->Prop} {o:HO} (h:H d=some (.ext f)):Tx H (upd H d o):=fun b x n e=>by
 rw [upd_ne]
 ·exact e
 ·intro z
  rw [z,h] at e
  exact n f (Option.some.inj e).symm
theorem Tx.tup {H H':Hp} {a:Addr} {xs:List V} (S:Tx H H') (h:H a=some (.tup xs)):H' a=some (.tup xs):=S _ _ (fun _ z=>nomatch z) h
theorem Tx.lst {H H':Hp} {a:Addr} {xs:List V} (S:Tx H H') (h:H a=some (.lst xs)):H' a=some (.lst xs):=S _ _ (fun _ z=>nomatch z) h
theorem Tx.sqT {H H':Hp} {a:Addr} {xs:List V} (S:Tx H H') (h:SqT K H a xs):SqT K H' a xs:=by
 rcases h with (h | ⟨o,h⟩) | h
 ·exact .inl (.inl (S _ _ (fun _ z=>nomatch z) h))
 ·exact .inl (.inr ⟨o,S _ _ (fun _ z=>nomatch z) h⟩)
 ·exact .inr h
theorem Tx.keys {H H':Hp} {ys:List Pk} (S:Tx H H') (h:KeysAt H ys):KeysAt H' ys:=fun y hy=>S _ _ (fun _ z=>nomatch z) (h y hy)
theorem Tx.keysS {H H':Hp} {ys:List Pk} (S:Tx H H') (h:KeysS K H ys):KeysS K H' ys:=fun y hy=>S.sqT (h y hy)
theorem Tx.ways {H H':Hp} {as:List Addr} {ws:List Way} (S:Tx H H') (h:WaysAt H as ws):WaysAt H' as ws:=
 ⟨h.len,fun k a x e1 e2=>by
  obtain ⟨t,h1,h2⟩:=h.item k a x e1 e2
  exact ⟨t,S _ _ (fun _ z=>nomatch z) h1,S _ _ (fun _ z=>nomatch z) h2⟩⟩
def Sy (d d0:Addr) (H H':Hp):Prop:=∀ b x,b ≠ d->b ≠ d0->H b=some x->H' b=some x
theorem Sy.tx {d d0:Addr} {H H':Hp} {f:Heap->Prop} (S:Sy d d0 H H') (hd:H d=none) (h0:H d0=some (.ext f)):Tx H H':=fun b x n e=>by
 refine S b x (fun z=>by rw [z,hd] at e;cases e) (fun z=>?_) e
 rw [z,h0] at e
 exact n f (Option.some.inj e).symm
theorem pushed_snoc (T:Tb) (h:Int) (ws:List Way) (x:Way):pushed T h (ws++[x])=(pushed T h ws).put x.2.1 x.2.2 ((pushed T h ws x.2.1 x.2.2).getD 0+h):=by
 unfold pushed
 rw [List.foldl_append]
 rfl
theorem pushed_some {h:Int} {a b:Nat}:∀ (ws:List Way) (T:Tb),(∃ v,T a b=some v)->∃ v,pushed T h ws a b=some v
 | [],T,e=>e
 | x :: ws,T,⟨v,e⟩=>by
  refine pushed_some ws _ ?_
  by_cases z:a=x.2.1/\b=x.2.2
  ·exact ⟨_,by show Tb.put _ _ _ _ _ _=_;rw [z.1,z.2,Tb.put_same]⟩
  ·exact ⟨v,by show Tb.put _ _ _ _ _ _=_;rw [Tb.put_ne _ _ z];exact e⟩
def spMT (P:Program) (w:World) (K:PySem.W.Frag):Sp:=fun vs H Q _=>∃ (d0:Addr) (es cs:List Str) (pr:List Int) (R:Nat->Nat->Int) (zs:List Pk),vs=[.ref d0]/\H d0=some (DP P w d0 zs)/\KeysAt H zs/\Ord cs.length zs/\zs.length=(es.length+1) * (cs.length+1)/\NetAt H es cs pr R zs/\es.length<=40/\cs.length<=40 ∧
 ∀ (H':Hp) (d:Addr) (ys:List Pk) (U:Tb),Same H H'->H d=none->H' d=some (DP P w d ys)->KeysS K H' ys->Holds es.length cs.length ys U->(∀ a b,a<=es.length->b<=cs.length->∃ v,U a b=some v)->FlowAt es.length cs.length (cheap es cs pr R) ((es.length+1) * (cs.length+1)) U->Q (.ref d) H'
theorem scMT:FnScope ["net","many","knot","here","step","done","written"] ["net"] (defScope sMT):=⟨rfl,rfl,rfl,by decide +kernel,rfl,by decide +kernel,by decide +kernel⟩
theorem ok_mt {f aS:Addr} {fd:FuncData} (F:Fun K "many_to" "many_to" sMT f fd) (mS:mg "START" = some (.ref aS)) (hS:∀ H,SqT K H aS [.int 0,.int 0]):FnOk P w K mg base CX0 1 f fd ["net"] (spMT P w K):=by
 refine F.ok scMT (fun vs H Q E h=>?_) (fun cdv A outer s H vs Q E hr h=>?_)
 ·obtain ⟨d0,es,cs,pr,R,zs,rfl,_⟩:=h
  rfl
 ·obtain ⟨d0,es,cs,pr,R,zs,rfl,h0d,h0k,h0o,h0l,h0n,hel,hcl,q⟩:=h
  refine ⟨_,pss_cons (ps_set (i:=1) scMT.nd rfl (Or.inl rfl) (pe_dispQ hr.units (pe_glob (v:=.ref aS) (by rfl) mS rfl) pe_int))
   (pss_cons (ps_wk (ps_for PassesOwn.never rfl (pi_keysP (pv 0)) (pg_name (i:=2) scMT.nd rfl (Or.inl rfl))
   (pss_cons (ps_mid (ps_set (i:=3) scMT.nd rfl (Or.inl rfl) (pe_bmP PySem.F.slot_dict_setdefault PySem.F.type_dict_setdefault (mt_setdef hr.units) (pv 1) (pa_cons (pv 2) (pa_cons pe_int pa_nil)))))
   (pss_one (ps_for PassesOwn.never rfl (pi_list (pe_datQ rfl rfl rfl hr.units (pv 0) (pv 2) (fun _ _=>rfl))) (pg_tup (n:=3) rfl (pgs_cons (pg_name (i:=4) scMT.nd rfl (Or.inl rfl)) (pgs_cons (pg_name (i:=5) scMT.nd rfl (Or.inl rfl)) (pgs_cons (pg_name (i:=6) scMT.nd rfl (Or.inl rfl)) pgs_nil))))
   (pss_one (ps_asg (pe_op op_add (pe_bmP PySem.F.slot_dict_get PySem.F.type_dict_get (mt_dgetQ hr.units) (pv 1) (pa_cons (pe_tup (pa_cons (pv 5) (pa_cons (pv 6) pa_nil))) (pa_cons pe_int pa_nil))) (pv 3)) (pg_sub (pv 1) (pe_tup (pa_cons (pv 5) (pa_cons (pv 6) pa_nil))) (set_dictQ hr.units)))))))))
   (pss_one (ps_ret (pv 1)))),?_⟩
  refine fun d hd=>⟨aS,kp 0 0,rfl,hS _,upd_same,?_⟩
  have nd:d0 ≠ d:=fun e=>by rw [e,hd] at h0d;cases h0d
  have hNs:(es.length+1) * (cs.length+1)<=41 * 41:=Nat.mul_le_mul (by omega) (by omega)
  refine ⟨d0,zs,_,rfl,d0,zs,rfl,by rw [upd_ne nd,upd_ne nd];exact h0d,fun o=>?_⟩
  refine for_keys (P:=P) (w:=w) (d:=d0) (ys:=zs) (o:=o) (fun c σ H3=>∃ (ys:List Pk) (U:Tb) (v2 v3 v4 v5 v6:Option V),σ=[some (.ref d0),some (.ref d),v2,v3,v4,v5,v6]/\H3 d0=some (DPF P w d0 zs o)/\H3 d=some (DP P w d ys)/\KeysS K H3 ys/\ys.length<=1+c * 46/\Holds es.length cs.length ys U/\FlowAt es.length cs.length (cheap es cs pr R) c U/\(∀ a b,a<=es.length->b<=cs.length->a * (cs.length+1)+b < c->∃ v,U a b=some v)/\Sy d d0 H H3)
   ⟨[(kp 0 0,aS,.int 1)],Tb.put (fun _ _=>none) 0 0 1,none,none,none,none,none,rfl,upd_same,by rw [upd_ne (Ne.symm nd)];exact upd_same,(fun y hy=>by rw [List.mem_singleton.mp hy];exact hS _),(by show 1<=1+0 * 46;omega),(by
    have hz:Holds es.length cs.length [] (fun _ _=>none):=fun _ _ _ _=>rfl
    exact hz.put (i:=0) (j:=0) (b:=aS) (v:=1)),flow_zero,(fun a b _ _ h=>by omega),(fun b x n1 n2 e=>by rw [upd_ne n2,upd_ne n1,upd_ne n1];exact e)⟩ (fun c σ H3 _ ⟨_,_,_,_,_,_,_,_,h,_⟩=>h) ?_ ?_
  ·rintro c y σ H3 hy ⟨ys,U,v2,v3,v4,v5,v6,rfl,h30,h3d,hks,hyl,hHo,hFl,hSm,Sy3⟩
   have hcN:c < (es.length+1) * (cs.length+1):=by rw [<-h0l];exact (List.getElem?_eq_some_iff.mp hy).1
   obtain ⟨hi,hj⟩:=knot_in hcN
   have T3:=Sy3.tx hd h0d
   have hkey:=h0o c y hy
   have hval:=h0o.val hy
   obtain ⟨l,as,el,hl,hW⟩:=h0n c y hy
   have hb0:=h0k y (List.mem_of_getElem? hy)
   rw [hkey] at hb0
   rw [el] at hval
   unfold codeK at hkey hval hb0
   have h3b:SqT K H3 y.2.1 ((kp (c / (cs.length+1)) (c % (cs.length+1))).map kV):=SqT.of (T3.tup hb0)
   have h3l:=T3.lst hl
   have hW3:=T3.ways hW
   have h3k:KeysS K H3 zs:=KeysS.of (T3.keys h0k)
   have ecode:c / (cs.length+1) * (cs.length+1)+c % (cs.length+1)=c:=by
    have:=Nat.div_add_mod c (cs.length+1)
    rw [Nat.mul_comm] at this
    exact this
   have hwl:(cheap es cs pr R (c / (cs.length+1)) (c % (cs.length+1))).length<=45:=Nat.le_trans (List.length_filter_le ..) (Nat.le_trans (ways_len ..) (by omega))
   have hfw:=cheap_fwd (es:=es) (cs:=cs) (pr:=pr) (R:=R) _ _ hi hj
   -- the rest of the turn,from what setdefault leaves
   refine ⟨fun σ H4=>∃ (ys4:List Pk) (U4:Tb),σ=[some (.ref d0),some (.ref d),some (.ref y.2.1),some (.int (uOf cs.length U4 c)),v4,v5,v6]/\H4 d0=some (DPF P w d0 zs o)/\H4 d=some (DP P w d ys4)/\KeysS K H4 ys4/\ys4.length<=ys.length+1/\Holds es.length cs.length ys4 U4/\FlowAt es.length cs.length (cheap es cs pr R) c U4/\U4 (c / (cs.length+1)) (c % (cs.length+1))=some (uOf cs.length U4 c)/\(∀ a b,a<=es.length->b<=cs.length->a * (cs.length+1)+b < c->∃ v,U4 a b=some v)/\Tx H3 H4/\Sy d d0 H H4,?_,?_⟩
   ·refine ⟨_,rfl,d,ys,rfl,h3d,_,rfl,d,ys,kp (c / (cs.length+1)) (c % (cs.length+1)),y.2.1,.int 0,rfl,rfl,h3d,hks,h3b,fewer (by have:c * 46<=41 * 41 * 46:=Nat.mul_le_mul_right _ (by omega);omega),fun v hv=>?_,fun hv=>?_⟩
    ·obtain ⟨u,hu⟩:∃ u,U (c / (cs.length+1)) (c % (cs.length+1))=some u:=by
      rw [hHo _ _ hi hj] at hv
      obtain ⟨u,hu,_⟩:=Option.map_eq_some_iff.mp hv
      exact ⟨u,hu⟩
     have eu:uOf cs.length U c=u:=by unfold uOf;rw [hu];rfl
     have ev:v=.int (uOf cs.length U c):=by
      rw [hHo _ _ hi hj,hu] at hv
      rw [eu]
      exact (Option.some.inj hv).symm
     rw [ev]
     exact ⟨ys,U,rfl,h30,h3d,hks,by omega,hHo,hFl,by rw [hu,eu],hSm,Tx.of (Same.refl _),Sy3⟩
    ·have hu:U (c / (cs.length+1)) (c % (cs.length+1))=none:=by
      rw [hHo _ _ hi hj] at hv
      exact Option.map_eq_none_iff.mp hv
     have eU:uOf cs.length (U.put (c / (cs.length+1)) (c % (cs.length+1)) 0)=uOf cs.length U:=by
      rw [uOf_put hj]
      funext x
      by_cases e:x=c / (cs.length+1) * (cs.length+1)+c % (cs.length+1)
      ·rw [if_pos e,e,uOf_at hj,hu]
       rfl
      ·rw [if_neg e]
     have e0:uOf cs.length U c=0:=by unfold uOf;rw [hu];rfl
     have nd3:d0 ≠ d:=nd
     have hX:Tx H3 (upd H3 d (DP P w d (putP ys (kp (c / (cs.length+1)) (c % (cs.length+1))) y.2.1 (.int 0)))):=Tx.upd h3d
     refine ⟨putP ys (kp (c / (cs.length+1)) (c % (cs.length+1))) y.2.1 (.int 0),U.put (c / (cs.length+1)) (c % (cs.length+1)) 0,by rw [eU,e0];rfl,by rw [upd_ne nd3];exact h30,upd_same,hks.put h3b fun _ _ h=>hX.sqT h,putP_len ..,hHo.put,fun f=>by rw [eU];exact hFl f,by rw [eU,e0,Tb.put_same],fun a b ha hb h=>?_,hX,fun b x n1 n2 e=>by rw [upd_ne n1];exact Sy3 b x n1 n2 e⟩
     obtain ⟨v,hv⟩:=hSm a b ha hb h
     refine ⟨v,?_⟩
     rw [Tb.put_ne,hv]
     rintro ⟨rfl,rfl⟩
     omega
   ·rintro σ H4 ⟨ys4,U4,rfl,h40,h4d,hk4,hyl4,hHo4,hFl4,hU4,hSm4,X4,Sy4⟩
    refine ⟨_,rfl,_,rfl,d0,zs,kp (c / (cs.length+1)) (c % (cs.length+1)),y.2.1,.ref l,rfl,rfl,.inr ⟨o,h40⟩,X4.keysS h3k,X4.sqT h3b,hval,?_⟩
    have h4l:=X4.lst h3l
    have hW4:=X4.ways hW3
    refine ⟨l,rfl,⟨_,SqL.of h4l⟩,for_list (K:=K) (a:=l) (xs:=as.map V.ref) (fun k σ H5=>∃ (ys5:List Pk) (v4 v5 v6:Option V),σ=[some (.ref d0),some (.ref d),some (.ref y.2.1),some (.int (uOf cs.length U4 c)),v4,v5,v6]/\H5 d0=some (DPF P w d0 zs o)/\H5 d=some (DP P w d ys5)/\KeysS K H5 ys5/\ys5.length<=ys.length+1+k/\Holds es.length cs.length ys5 (pushed U4 (uOf cs.length U4 c) ((cheap es cs pr R (c / (cs.length+1)) (c % (cs.length+1))).take k))/\Tx H4 H5/\Sy d d0 H H5)
     ⟨ys4,_,_,_,rfl,h40,h4d,hk4,hyl4,by rw [List.take_zero];exact hHo4,Tx.of (Same.refl _),Sy4⟩ (fun k σ H5 _ ⟨_,_,_,_,_,_,_,_,_,_,X,_⟩=>SqL.of (X.lst h4l)) ?_ ?_⟩
    ·rintro k x σ H5 hx ⟨ys5,v4,v5,v6,rfl,h50,h5d,hk5,hyl5,hHo5,X5,Sy5⟩
     obtain ⟨a,ha,rfl⟩:=ref_at hx
     have hkw:k < (cheap es cs pr R (c / (cs.length+1)) (c % (cs.length+1))).length:=by rw [<-hW4.len];exact (List.getElem?_eq_some_iff.mp ha).1
     have hwk:=List.getElem?_eq_getElem hkw
     obtain ⟨t,ht,_⟩:=(X5.ways hW4).item k a _ ha hwk
     have hw:=hfw _ (List.getElem_mem hkw)
     have htk:(cheap es cs pr R (c / (cs.length+1)) (c % (cs.length+1))).take (k+1)=(cheap es cs pr R (c / (cs.length+1)) (c % (cs.length+1))).take k++[(cheap es cs pr R (c / (cs.length+1)) (c % (cs.length+1)))[k]]:=List.take_succ_eq_append_getElem hkw
     rw [htk,pushed_snoc]
     generalize (cheap es cs pr R (c / (cs.length+1)) (c % (cs.length+1)))[k]=x at ht hw
     generalize pushed U4 (uOf cs.length U4 c) ((cheap es cs pr R (c / (cs.length+1)) (c % (cs.length+1))).take k)=U5 at hHo5
     unfold wayV at ht
     refine ⟨a,_,rfl,SqT.of ht,rfl,_,_,rfl,_,_,rfl,_,_,rfl,rfl,?_⟩
     refine ⟨_,rfl,d,ys5,rfl,h5d,_,rfl,_,rfl,few (by show 2<=_;omega),fun b1 hb1=>?_⟩
     have T6:=same_upd (o:=.tup [V.int ((x.2.1:Nat):Int),.int ((x.2.2:Nat):Int)]) hb1
     have h6b:upd H5 b1 (.tup [V.int ((x.2.1:Nat):Int),.int ((x.2.2:Nat):Int)]) b1=some (.tup ((kp x.2.1 x.2.2).map kV)):=upd_same
     have h6d:=T6 _ _ h5d
     have h60:=T6 _ _ h50
     have hk6:=(Tx.of T6).keysS hk5
     generalize upd H5 b1 (.tup [V.int ((x.2.1:Nat):Int),.int ((x.2.2:Nat):Int)])=H6 at T6 h6b h6d h60 hk6
     refine ⟨d,ys5,kp x.2.1 x.2.2,b1,.int 0,rfl,rfl,.inl h6d,hk6,SqT.of h6b,?_⟩
     have hg:(valP ys5 (kp x.2.1 x.2.2)).getD (.int 0)=.int ((U5 x.2.1 x.2.2).getD 0):=by
      rw [hHo5 _ _ hw.1 hw.2.1]
      cases U5 x.2.1 x.2.2 <;> rfl
     rw [hg]
     refine ⟨_,rfl,_,_,rfl,rfl,_,rfl,_,rfl,_,rfl,few (by show 2<=_;omega),fun b2 hb2=>?_⟩
     have T7:=same_upd (o:=.tup [V.int ((x.2.1:Nat):Int),.int ((x.2.2:Nat):Int)]) hb2
     have h7b:upd H6 b2 (.tup [V.int ((x.2.1:Nat):Int),.int ((x.2.2:Nat):Int)]) b2=some (.tup ((kp x.2.1 x.2.2).map kV)):=upd_same
     have h7d:=T7 _ _ h6d
     have h70:=T7 _ _ h60
     have hk7:=(Tx.of T7).keysS hk6
     have S57:=T6.trans T7
     generalize upd H6 b2 (.tup [V.int ((x.2.1:Nat):Int),.int ((x.2.2:Nat):Int)])=H7 at T7 h7b h7d h70 hk7 S57
     refine ⟨d,ys5,kp x.2.1 x.2.2,b2,rfl,rfl,h7d,hk7,SqT.of h7b,fewer (by have:c * 46<=41 * 41 * 46:=Nat.mul_le_mul_right _ (by omega);omega),?_⟩
     have X7:Tx H7 (upd H7 d (DP P w d (putP ys5 (kp x.2.1 x.2.2) b2 (.int ((U5 x.2.1 x.2.2).getD 0+uOf cs.length U4 c))))):=Tx.upd h7d
     refine ⟨_,_,_,_,rfl,by rw [upd_ne nd];exact h70,upd_same,hk7.put (SqT.of h7b) fun _ _ h=>X7.sqT h,Nat.le_trans (putP_len ..) (by omega),hHo5.put,(X5.trans (Tx.of S57)).trans X7,fun b z n1 n2 e=>by rw [upd_ne n1];exact S57 _ _ (Sy5 b z n1 n2 e)⟩
    ·rintro σ H5 ⟨ys5,v4,v5,v6,rfl,h50,h5d,hk5,hyl5,hHo5,X5,Sy5⟩
     rw [List.length_map,hW4.len,List.take_length] at hHo5
     rw [List.length_map,hW4.len] at hyl5
     refine ⟨ys5,_,_,_,_,_,_,rfl,h50,h5d,hk5,by rw [Nat.succ_mul];omega,hHo5,flow_step cheap_fwd hcN hFl4,fun a b ha hb h=>pushed_some _ _ ?_,Sy5⟩
     by_cases e:a * (cs.length+1)+b=c
     ·have e1:=code_div (i:=a) hb
      rw [e] at e1
      rw [<-e1.1,<-e1.2]
      exact ⟨_,hU4⟩
     ·exact hSm4 a b ha hb (by omega)
  ·rintro σ H3 ⟨ys,U,v2,v3,v4,v5,v6,rfl,h30,h3d,hks,hyl,hHo,hFl,hSm,Sy3⟩
   rw [h0l] at hFl hSm
   have X:Tx H3 (upd H3 d0 (DP P w d0 zs)):=Tx.upd h30
   refine ⟨o,h30,_,rfl,q _ d ys U (fun b x e=>?_) hd (by rw [upd_ne (Ne.symm nd)];exact h3d) (X.keysS hks) hHo (fun a b ha hb=>hSm a b ha hb (code_lt ha hb)) hFl⟩
   by_cases e0:b=d0
   ·rw [e0] at e ⊢
    exact upd_same.trans (h0d.symm.trans e)
   ·rw [upd_ne e0]
    exact Sy3 b x (fun z=>by rw [z,hd] at e;cases e) e0 e
theorem eqK (st:Sk):eqL (stepV st) [.str (Str.ofString "keep")]=isK st:=by
 cases st <;> first | rfl | decide +kernel
theorem step_flats (st:Sk):(stepV st).all flatV=true:=by
 cases st <;> rfl
section
variable {es cs:List Str} {pr:List Int} {R:Nat->Nat->Int} {U T:Tb} {i j:Nat}
theorem keep_is {x:Way} (h:x ∈ cheap es cs pr R i j) (hk:isK x.1=true):x=(.keep,i+1,j+1):=by
 have hm:x ∈ (ways es cs i j).filter (fun x=>isK x.1):=List.mem_filter.mpr ⟨(cheap_in h).1,hk⟩
 rw [keep_ways] at hm
 split at hm
 ·exact List.mem_singleton.mp hm
 ·cases hm
def sB (es cs:List Str) (pr:List Int) (R:Nat->Nat->Int) (U T:Tb) (c:Nat):Bool:=((cheap es cs pr R (c / (cs.length+1)) (c % (cs.length+1))).any fun x=>isK x.1) && decide ((U (c / (cs.length+1)) (c % (cs.length+1))).getD 0 * (T (c / (cs.length+1)+1) (c % (cs.length+1)+1)).getD 0=(T 0 0).getD 0)
theorem any_keep:((cheap es cs pr R i j).any fun x=>isK x.1)=true ↔ (Sk.keep,i+1,j+1) ∈ cheap es cs pr R i j:=by
 constructor
 ·intro h
  obtain ⟨x,hx,hk⟩:=List.any_eq_true.mp h
  rw [keep_is hx hk] at hx
  exact hx
 ·intro h
  exact List.any_eq_true.mpr ⟨_,h,rfl⟩
theorem sB_iff {c:Nat}:sB es cs pr R U T c=true ↔ sureP es cs pr R U T (c / (cs.length+1)) (c % (cs.length+1)):=by
 unfold sB sureP
 rw [Bool.and_eq_true,any_keep,decide_eq_true_iff]
theorem keeps_map {α:Type} {a:α} {E:Bool}:((cheap es cs pr R i j).filter fun x=>isK x.1 && E).map (fun _=>a)=if (((cheap es cs pr R i j).any fun x=>isK x.1) && E)=true then [a] else []:=by
 cases E with
 | false=>
  rw [Bool.and_false,if_neg Bool.false_ne_true,filt_nil fun x _=>Bool.and_false _]
  rfl
 | true=>
  have e:((cheap es cs pr R i j).filter fun x=>isK x.1 && true)=(cheap es cs pr R i j).filter fun x=>isK x.1:=List.filter_congr fun x _=>Bool.and_true _
  rw [e,Bool.and_true]
  by_cases h:(Sk.keep,i+1,j+1) ∈ cheap es cs pr R i j
  ·rw [if_pos (any_keep.mpr h),(keep_cheap h).2.2.2]
   rfl
  ·rw [if_neg (fun z=>h (any_keep.mp z)),filt_nil fun x hx=>?_]
   ·rfl
   ·cases hk:isK x.1 with
    | false=>rfl
    | true=>rw [keep_is hx hk] at hx;exact absurd hx h
end
def exK (b:Bool) (a:Addr) (ws:List Way):List Addr:=(ws.filter fun x=>isK x.1 && b).map fun _=>a
theorem exK_snoc (b:Bool) (a:Addr) (ws:List Way) (x:Way):exK b a (ws++[x])=exK b a ws++if (isK x.1 && b)=true then [a] else []:=by
 unfold exK
 rw [List.filter_append,List.map_append]
 congr 1
 cases h:isK x.1 && b with
 | true=>rw [List.filter_cons_of_pos (p:=fun x:Way=>isK x.1 && b) h];rfl
 | false=>rw [List.filter_cons_of_neg (p:=fun x:Way=>isK x.1 && b) (by show ¬ (isK x.1 && b)=true;rw [h];exact Bool.false_ne_true)];rfl
theorem exK_len (b:Bool) (a:Addr) (ws:List Way):(exK b a ws).length<=ws.length:=by
 unfold exK
 rw [List.length_map]
 exact List.length_filter_le ..
def spSure (K:PySem.W.Frag):Sp:=fun vs H Q _=>∃ (p q r:Addr) (es cs:List Str) (pr:List Int),vs=[.ref p,.ref q,.ref r]/\SqT K H p (es.map V.str)/\SqT K H q (cs.map V.str)/\SqT K H r (pr.map V.int)/\(∀ z ∈ es,Good z)/\(∀ z ∈ cs,Good z)/\es.length<=5/\cs.length<=5/\pr.length=7 ∧
 ∀ (H':Hp) (t:Addr) (adr:Nat->Addr) (R:Nat->Nat->Int) (U T:Tb),Same H H'->H' t=some (.tup ((((List.range ((es.length+1) * (cs.length+1))).filter (sB es cs pr R U T)).map adr).map V.ref))->(∀ c,c < (es.length+1) * (cs.length+1)->H' (adr c)=some (.tup ((codeK cs.length c).map kV))) →
  Rest (fun i st=>price es i pr st) es.length cs.length (ways es cs) R->(∀ a b,a<=es.length->b<=cs.length->CntAt es cs pr R T a b)->FlowAt es.length cs.length (cheap es cs pr R) ((es.length+1) * (cs.length+1)) U->Q (.ref t) H'
theorem scSure:FnScope ["elder","copy","prices","net","ahead","behind","pairs","knot","step","done","written"] ["elder","copy","prices"] (defScope sSure):=⟨rfl,rfl,rfl,by decide +kernel,rfl,by decide +kernel,by decide +kernel⟩
theorem ok_sure {f gN gM gT aS:Addr} {fd dN dM dT:FuncData} (F:Fun K "sure_pairs" "sure_pairs" sSure f fd) (DN:Dfn K mg "cheapest_net" sNet gN dN ["elder","copy","prices"]) (GN:FnOk P w K mg base CX0 4 gN dN ["elder","copy","prices"] (spNet P w K)) (DM:Dfn K mg "many_from" sMF gM dM ["net"]) (GM:FnOk P w K mg base CX0 4 gM dM ["net"] (spMF P w)) (DT:Dfn K mg "many_to" sMT gT dT ["net"]) (GT:FnOk P w K mg base CX0 4 gT dT ["net"] (spMT P w K)) (mS:mg "START" = some (.ref aS)) (hS:∀ H,SqT K H aS [.int 0,.int 0]) (mtup:mg "tuple" = none):FnOk P w K mg base CX0 5 f fd ["elder","copy","prices"] (spSure K):=by
 refine F.ok scSure (fun vs H Q E h=>?_) (fun cdv A outer s H vs Q E hr h=>?_)
 ·obtain ⟨p,q,r,es,cs,pr,rfl,_⟩:=h
  rfl
 ·obtain ⟨p,q0,r0,es,cs,pr,rfl,hp,hc,hpr,hge,hgc,hel,hcl,h7,q⟩:=h
  refine ⟨_,pss_cons (ps_set (i:=3) scSure.nd rfl (Or.inl rfl) (pe_call GN hr (by rfl) DN.at_ DN.fn.kp DN.bn .nil pass0 (pa_cons (pv 0) (pa_cons (pv 1) (pa_cons (pv 2) pa_nil)))))
   (pss_cons (ps_set (i:=4) scSure.nd rfl (Or.inl rfl) (pe_call GT hr (by rfl) DT.at_ DT.fn.kp DT.bn .nil pass0 (pa_cons (pv 3) pa_nil)))
   (pss_cons (ps_set (i:=5) scSure.nd rfl (Or.inl rfl) (pe_call GM hr (by rfl) DM.at_ DM.fn.kp DM.bn .nil pass0 (pa_cons (pv 3) pa_nil)))
   (pss_cons (ps_set (i:=6) scSure.nd rfl (Or.inl rfl) (pe_lst pa_nil))
   (pss_cons (ps_wk (ps_for PassesOwn.never rfl (pi_keysP (pv 3)) (pg_name (i:=7) scSure.nd rfl (Or.inl rfl))
   (pss_one (ps_for PassesOwn.never rfl (pi_list (pe_datQ rfl rfl rfl hr.units (pv 3) (pv 7) (fun _ _=>rfl))) (pg_tup (n:=3) rfl (pgs_cons (pg_name (i:=8) scSure.nd rfl (Or.inl rfl)) (pgs_cons (pg_name (i:=9) scSure.nd rfl (Or.inl rfl)) (pgs_cons (pg_name (i:=10) scSure.nd rfl (Or.inl rfl)) pgs_nil))))
   (pss_one (ps_if (PW.pt (pw_and (pt_cmpR (op_eqS hr.units) (pv 8) (pe_tup (pa_cons pe_str pa_nil)) (nomark _)) (pw_and1 (pt_cmpR op_eq (pe_op op_mulB (pe_datQ rfl rfl rfl hr.units (pv 4) (pv 7) (fun _ _=>rfl)) (pe_datQ rfl rfl rfl hr.units (pv 5) (pe_tup (pa_cons (pv 9) (pa_cons (pv 10) pa_nil))) (fun _ _=>rfl))) (pe_datQ rfl rfl rfl hr.units (pv 5) (pe_glob (v:=.ref aS) (by rfl) mS rfl) (fun _ _=>rfl)) (nomark _))))) (pss_one (ps_expr (pe_bm PySem.F.plainAttrs_list PySem.F.slot_list_append PySem.F.type_list_append mt_append (pv 6) (pa_cons (pv 7) pa_nil)))) pss_nil))))))
   (pss_one (ps_ret (pe_callTy call_tuple_of (by rfl) mtup boot_tuple (pa_cons (pv 6) pa_nil)))))))),?_⟩
  refine ⟨_,rfl,_,rfl,_,rfl,p,q0,r0,es,cs,pr,rfl,hp,hc,hpr,hge,hgc,by omega,by omega,h7,fun H1 d0 zs R S1 h1d h1k h1o h1l h1n hR=>?_⟩
  refine ⟨_,rfl,d0,es,cs,pr,R,zs,rfl,h1d,h1k,h1o,h1l,h1n,by omega,by omega,fun H2 dA yA U S2 nA h2A hkA hHA hsA hFl=>?_⟩
  refine ⟨_,rfl,d0,es,cs,pr,R,zs,rfl,S2 _ _ h1d,(fun y hy=>S2 _ _ (h1k y hy)),h1o,h1l,(fun c y e=>by
   obtain ⟨l,as,e1,e2,e3⟩:=h1n c y e
   exact ⟨l,as,e1,S2 _ _ e2,e3.mono S2⟩),by omega,by omega,fun H3 dB yB T S3 nB h3B hkB hHB hCt=>?_⟩
  have S23:=S2.trans S3
  have h3d:=S23 _ _ h1d
  have h3A:=S3 _ _ h2A
  have hkA3:=(Tx.of S3).keysS hkA
  have h3k:KeysAt H3 zs:=fun y hy=>S23 _ _ (h1k y hy)
  have h3n:NetAt H3 es cs pr R zs:=fun c y e=>by
   obtain ⟨l,as,e1,e2,e3⟩:=h1n c y e
   exact ⟨l,as,e1,S23 _ _ e2,e3.mono S23⟩
  have neA:dA ≠ d0:=fun e=>by rw [e,h1d] at nA;cases nA
  have neB:dB ≠ d0:=fun e=>by rw [e,S2 _ _ h1d] at nB;cases nB
  have hNs:(es.length+1) * (cs.length+1)<=6 * 6:=Nat.mul_le_mul (by omega) (by omega)
  refine ⟨Nat.zero_le _,fun pl hpl=>?_⟩
  have nd:d0 ≠ pl:=fun e=>by rw [e,hpl] at h3d;cases h3d
  obtain ⟨adr,hadr⟩:∃ adr:Nat->Addr,adr=fun c=>((zs[c]?).map (·.2.1)).getD 0:=⟨_,rfl⟩
  have hat:∀ c y,zs[c]?=some y->adr c=y.2.1:=fun c y e=>by rw [hadr];show ((zs[c]?).map (·.2.1)).getD 0=_;rw [e];rfl
  have hkey:∀ c,c < (es.length+1) * (cs.length+1)->H3 (adr c)=some (.tup ((codeK cs.length c).map kV)):=fun c hc=>by
   have e:=List.getElem?_eq_getElem (l:=zs) (i:=c) (by omega)
   rw [hat c _ e,<-h1o c _ e]
   exact h3k _ (List.getElem_mem _)
  refine ⟨d0,zs,_,rfl,d0,zs,rfl,by rw [upd_ne nd];exact h3d,fun o=>?_⟩
  refine for_keys (P:=P) (w:=w) (d:=d0) (ys:=zs) (o:=o) (fun c σ H4=>∃ (v7 v8 v9 v10:Option V),σ=[some (.ref p),some (.ref q0),some (.ref r0),some (.ref d0),some (.ref dA),some (.ref dB),some (.ref pl),v7,v8,v9,v10]/\H4 d0=some (DPF P w d0 zs o)/\H4 pl=some (.lst ((((List.range c).filter (sB es cs pr R U T)).map adr).map V.ref))/\Sy pl d0 H3 H4)
   ⟨none,none,none,none,rfl,upd_same,by rw [upd_ne (Ne.symm nd)];exact upd_same,fun b x n1 n2 e=>by rw [upd_ne n2,upd_ne n1];exact e⟩ (fun c σ H4 _ ⟨_,_,_,_,_,h,_⟩=>h) ?_ ?_
  ·rintro c y σ H4 hy ⟨v7,v8,v9,v10,rfl,h40,h4p,Sy4⟩
   have hcN:c < (es.length+1) * (cs.length+1):=by rw [<-h1l];exact (List.getElem?_eq_some_iff.mp hy).1
   obtain ⟨hi,hj⟩:=knot_in hcN
   have T4:=Sy4.tx hpl h3d
   have hval:=h1o.val hy
   obtain ⟨l,as,el,hl,hW⟩:=h3n c y hy
   rw [el] at hval
   have hb:=hkey c hcN
   rw [hat c y hy] at hb
   have h4b:SqT K H4 y.2.1 ((codeK cs.length c).map kV):=SqT.of (T4.tup hb)
   have h4l:=T4.lst hl
   have hW4:=T4.ways hW
   have h4k:KeysS K H4 zs:=KeysS.of (T4.keys h3k)
   have hrl:((List.range c).filter (sB es cs pr R U T)).length<=c:=Nat.le_trans (List.length_filter_le ..) (by rw [List.length_range];exact Nat.le_refl _)
   have hwl:(cheap es cs pr R (c / (cs.length+1)) (c % (cs.length+1))).length<=10:=Nat.le_trans (List.length_filter_le ..) (Nat.le_trans (ways_len ..) (by omega))
   refine ⟨_,rfl,_,rfl,d0,zs,codeK cs.length c,y.2.1,.ref l,rfl,rfl,.inr ⟨o,h40⟩,h4k,h4b,hval,?_⟩
   refine ⟨l,rfl,⟨_,SqL.of h4l⟩,for_list (K:=K) (a:=l) (xs:=as.map V.ref) (fun k σ H5=>∃ (v8 v9 v10:Option V),σ=[some (.ref p),some (.ref q0),some (.ref r0),some (.ref d0),some (.ref dA),some (.ref dB),some (.ref pl),some (.ref y.2.1),v8,v9,v10]/\H5 d0=some (DPF P w d0 zs o)/\H5 pl=some (.lst ((((List.range c).filter (sB es cs pr R U T)).map adr++exK (decide ((U (c / (cs.length+1)) (c % (cs.length+1))).getD 0 * (T (c / (cs.length+1)+1) (c % (cs.length+1)+1)).getD 0=(T 0 0).getD 0)) y.2.1 ((cheap es cs pr R (c / (cs.length+1)) (c % (cs.length+1))).take k)).map V.ref))/\Sy pl d0 H3 H5)
    ⟨_,_,_,rfl,h40,by rw [List.take_zero];show H4 pl=some (.lst (List.map V.ref (_++[])));rw [List.append_nil];exact h4p,Sy4⟩ (fun k σ H5 _ ⟨_,_,_,_,_,_,S5⟩=>SqL.of ((S5.tx hpl h3d).lst hl)) ?_ ?_⟩
   ·rintro k x σ H5 hx ⟨v8,v9,v10,rfl,h50,h5p,Sy5⟩
    obtain ⟨a,ha,rfl⟩:=ref_at hx
    have T5:=Sy5.tx hpl h3d
    have hkw:k < (cheap es cs pr R (c / (cs.length+1)) (c % (cs.length+1))).length:=by rw [<-hW.len];exact (List.getElem?_eq_some_iff.mp ha).1
    have hwk:=List.getElem?_eq_getElem hkw
    obtain ⟨t,ht,ht2⟩:=(T5.ways hW).item k a _ ha hwk
    have hxm:=List.getElem_mem hkw
    have htk:(cheap es cs pr R (c / (cs.length+1)) (c % (cs.length+1))).take (k+1)=(cheap es cs pr R (c / (cs.length+1)) (c % (cs.length+1))).take k++[(cheap es cs pr R (c / (cs.length+1)) (c % (cs.length+1)))[k]]:=List.take_succ_eq_append_getElem hkw
    have hlk:=exK_len (decide ((U (c / (cs.length+1)) (c % (cs.length+1))).getD 0 * (T (c / (cs.length+1)+1) (c % (cs.length+1)+1)).getD 0=(T 0 0).getD 0)) y.2.1 ((cheap es cs pr R (c / (cs.length+1)) (c % (cs.length+1))).take k)
    rw [List.length_take] at hlk
    rw [htk,exK_snoc]
    generalize (cheap es cs pr R (c / (cs.length+1)) (c % (cs.length+1)))[k]=x at ht ht2 hxm
    generalize exK (decide ((U (c / (cs.length+1)) (c % (cs.length+1))).getD 0 * (T (c / (cs.length+1)+1) (c % (cs.length+1)+1)).getD 0=(T 0 0).getD 0)) y.2.1 ((cheap es cs pr R (c / (cs.length+1)) (c % (cs.length+1))).take k)=ex at h5p hlk
    unfold wayV at ht
    refine ⟨a,_,rfl,SqT.of ht,rfl,_,_,rfl,_,_,rfl,_,_,rfl,rfl,?_⟩
    refine ⟨_,rfl,few (by show 1<=_;omega),fun b1 hb1=>?_⟩
    have T6:=same_upd (o:=.tup [V.str (Str.ofString "keep")]) hb1
    have h6b:upd H5 b1 (.tup [V.str (Str.ofString "keep")]) b1=some (.tup [V.str (Str.ofString "keep")]):=upd_same
    have h60:=T6 _ _ h50
    have h6p:=T6 _ _ h5p
    have Sy6:Sy pl d0 H3 (upd H5 b1 (.tup [V.str (Str.ofString "keep")])):=fun b x n1 n2 e=>T6 _ _ (Sy5 b x n1 n2 e)
    have h6t:=T6 _ _ ht2
    generalize upd H5 b1 (.tup [V.str (Str.ofString "keep")])=H6 at T6 h6b h60 h6p Sy6 h6t
    refine ⟨0,_,by decide,EqS.flats (.inr ⟨SqT.of h6t,SqT.of h6b⟩) (step_flats _) rfl,_,rfl,?_⟩
    rw [eqK]
    cases hk:isK x.1 with
    | false=>
     refine iteF (iteF ⟨_,_,_,rfl,h60,?_,Sy6⟩)
     rw [Bool.false_and,if_neg Bool.false_ne_true,List.append_nil]
     exact h6p
    | true=>
     refine iteT ?_
     obtain rfl:=keep_is hxm hk
     obtain ⟨g1,g2,_,_⟩:=keep_cheap hxm
     have T6x:=Sy6.tx hpl h3d
     have h6A:DA P w H6 dA yA:=.inl (Sy6 _ _ (fun e=>by rw [e,hpl] at h3A;cases h3A) neA h3A)
     have h6B:DA P w H6 dB yB:=.inl (Sy6 _ _ (fun e=>by rw [e,hpl] at h3B;cases h3B) neB h3B)
     obtain ⟨u,hu⟩:=hsA _ _ hi hj
     refine ⟨_,rfl,_,rfl,dA,yA,codeK cs.length c,y.2.1,.int u,rfl,rfl,h6A,T6x.keysS hkA3,SqT.of (T6x.tup hb),(by show valP yA (kp _ _)=_;rw [hHA _ _ hi hj,hu];rfl),?_⟩
     refine ⟨_,rfl,_,rfl,_,rfl,few (by show 2<=_;omega),fun b2 hb2=>?_⟩
     have T7:=same_upd (o:=.tup [V.int ((c / (cs.length+1)+1:Nat):Int),.int ((c % (cs.length+1)+1:Nat):Int)]) hb2
     have h7b:upd H6 b2 (.tup [V.int ((c / (cs.length+1)+1:Nat):Int),.int ((c % (cs.length+1)+1:Nat):Int)]) b2=some (.tup ((kp (c / (cs.length+1)+1) (c % (cs.length+1)+1)).map kV)):=upd_same
     have h70:=T7 _ _ h60
     have h7p:=T7 _ _ h6p
     have Sy7:Sy pl d0 H3 (upd H6 b2 (.tup [V.int ((c / (cs.length+1)+1:Nat):Int),.int ((c % (cs.length+1)+1:Nat):Int)])):=fun b x n1 n2 e=>T7 _ _ (Sy6 b x n1 n2 e)
     generalize upd H6 b2 (.tup [V.int ((c / (cs.length+1)+1:Nat):Int),.int ((c % (cs.length+1)+1:Nat):Int)])=H7 at T7 h7b h70 h7p Sy7
     have h7B:DA P w H7 dB yB:=.inl (Sy7 _ _ (fun e=>by rw [e,hpl] at h3B;cases h3B) neB h3B)
     have hkB7:KeysS K H7 yB:=KeysS.of ((Sy7.tx hpl h3d).keys hkB)
     have ht':=hCt (c / (cs.length+1)+1) (c % (cs.length+1)+1) (by omega) (by omega)
     have ht0:=hCt 0 0 (Nat.zero_le _) (Nat.zero_le _)
     have hmo:=over_small (U:=U) hCt hxm hel hcl
     obtain ⟨t',et'⟩:∃ t',T (c / (cs.length+1)+1) (c % (cs.length+1)+1)=some t':=⟨_,ht'⟩
     obtain ⟨t0,et0⟩:∃ t0,T 0 0=some t0:=⟨_,ht0⟩
     rw [hu,et'] at hmo
     refine ⟨dB,yB,kp (c / (cs.length+1)+1) (c % (cs.length+1)+1),b2,.int t',rfl,rfl,h7B,hkB7,SqT.of h7b,(by rw [hHB _ _ (by omega) (by omega),et'];rfl),_,_,rfl,rfl,hmo,_,rfl,dB,yB,kp 0 0,aS,.int t0,rfl,rfl,h7B,hkB7,hS _,(by rw [hHB _ _ (Nat.zero_le _) (Nat.zero_le _),et0];rfl),rfl,_,rfl,?_⟩
     rw [hu,et',et0]
     show if decide (V.int (u * t')=V.int t0)=true then _ else _
     by_cases e:u * t'=t0
     ·refine iteY (congrArg V.int e) ⟨_,rfl,.inl ⟨rfl,_,SqL.of h7p⟩,_,rfl,pl,_,_,rfl,rfl,h7p,?_,?_⟩
      ·rw [List.length_map,List.length_append,List.length_map]
       exact fewer (by omega)
      ·refine ⟨_,_,_,rfl,by rw [upd_ne nd];exact h70,?_,fun b x n1 n2 e=>by rw [upd_ne n1];exact Sy7 b x n1 n2 e⟩
       rw [upd_same,if_pos (by show (true && decide _)=true;rw [Bool.true_and];exact decide_eq_true e),<-List.append_assoc,List.map_append (l₂:=[y.2.1])]
       rfl
     ·refine iteK (fun z=>e (V.int.inj z)) ⟨_,_,_,rfl,h70,?_,Sy7⟩
      rw [if_neg (by rw [Bool.and_eq_true];exact fun z=>e (of_decide_eq_true z.2)),List.append_nil]
      exact h7p
   ·rintro σ H5 ⟨v8,v9,v10,rfl,h50,h5p,Sy5⟩
    rw [List.length_map,hW.len,List.take_length] at h5p
    unfold exK at h5p
    rw [keeps_map] at h5p
    refine ⟨_,_,_,_,rfl,h50,?_,Sy5⟩
    rw [h5p,List.range_succ,List.filter_append,List.map_append (l₁:=(List.range c).filter _)]
    show some (HO.lst (List.map V.ref (_++if sB es cs pr R U T c=true then [y.2.1] else [])))=_
    cases hs:sB es cs pr R U T c with
    | false=>rw [List.filter_cons_of_neg (by rw [hs];exact Bool.false_ne_true)];rfl
    | true=>rw [List.filter_cons_of_pos hs,<-hat c y hy];rfl
  ·rintro σ H4 ⟨v7,v8,v9,v10,rfl,h40,h4p,Sy4⟩
   rw [h1l] at h4p
   have T4:=Sy4.tx hpl h3d
   have h5p:upd H4 d0 (DP P w d0 zs) pl=some (.lst ((((List.range ((es.length+1) * (cs.length+1))).filter (sB es cs pr R U T)).map adr).map V.ref)):=by rw [upd_ne (Ne.symm nd)];exact h4p
   refine ⟨o,h40,_,rfl,pl,_,rfl,.inl ⟨SqL.of h5p,fun t ht=>?_⟩⟩
   have T6:=same_upd (o:=.tup ((((List.range ((es.length+1) * (cs.length+1))).filter (sB es cs pr R U T)).map adr).map V.ref)) ht
   have X:Tx H4 (upd H4 d0 (DP P w d0 zs)):=Tx.upd h40
   refine q _ t adr R U T (((S1.trans S23).trans (fun b x e=>?_)).trans T6) upd_same (fun c hc=>T6 _ _ (X.tup (T4.tup (hkey c hc)))) hR hCt hFl
   by_cases e0:b=d0
   ·rw [e0] at e ⊢
    exact upd_same.trans (h3d.symm.trans e)
   ·rw [upd_ne e0]
    exact Sy4 b x (fun z=>by rw [z,hpl] at e;cases e) e0 e
theorem FnOk.or2 {k:Nat} {f:Addr} {fd:FuncData} {ps:List Str} {sp1 sp2 sp:Sp} (F1:FnOk P w K mg base CX0 k f fd ps sp1) (F2:FnOk P w K mg base CX0 k f fd ps sp2) (h:∀ vs H Q E,sp vs H Q E->sp1 vs H Q E\/sp2 vs H Q E):FnOk P w K mg base CX0 k f fd ps sp:=
 ⟨fun vs H Q E hs=>(h vs H Q E hs).elim (F1.len vs H Q E) (F2.len vs H Q E),fun A outer s H args us vs Q E hr he hb hv hs=>(h vs H Q E hs).elim (fun z=>F1.run A outer s H args us vs Q E hr he hb hv z) (fun z=>F2.run A outer s H args us vs Q E hr he hb hv z)⟩
def SameV (H:Hp):Nat->V->V->Prop
 | 0,x,y=>(∃ z,x=.str z/\y=.str z)\/∃ n,x=.int n/\y=.int n
 | n+1,x,y=>SameV H n x y\/∃ (p r:Addr) (xs ys:List V),x=.ref p/\y=.ref r/\H p=some (.tup xs)/\H r=some (.tup ys)/\xs.length=ys.length/\ys.length<=100000/\∀ (i:Nat) (a b:V),xs[i]?=some a->ys[i]?=some b->SameV H n a b
def spSame (n:Nat):Sp:=fun vs H Q _=>∃ x y,vs=[x,y]/\SameV H n x y/\Q (.bl true) H
def spSameT (n:Nat):Sp:=fun vs H Q _=>∃ (p r:Addr) (xs ys:List V),vs=[.ref p,.ref r]/\H p=some (.tup xs)/\H r=some (.tup ys)/\xs.length=ys.length/\ys.length<=100000/\(∀ (i:Nat) (a b:V),xs[i]?=some a->ys[i]?=some b->SameV H n a b)/\Q (.bl true) H
theorem scSame:FnScope ["found","due","k"] ["found","due"] (defScope sSame):=⟨rfl,rfl,rfl,by decide +kernel,rfl,by decide +kernel,by decide +kernel⟩
structure Kinds (K:PySem.W.Frag):Prop where
 st:PySem.W.kitOne K (.type "str") (.type "tuple")=some false
 it:PySem.W.kitOne K (.type "int") (.type "tuple")=some false
 is_:PySem.W.kitOne K (.type "int") (.type "str")=some false
 ib:PySem.W.kitOne K (.type "int") (.type "bool")=some false
theorem ok_same0 {f:Addr} {fd:FuncData} (F:Fun K "_law_same" "_law_same" sSame f fd) (misi:mg "isinstance" = none) (mtup:mg "tuple" = none) (mstr:mg "str" = none) (mint:mg "int" = none) (mbool:mg "bool" = none) (mlen:mg "len" = none) (mrange:mg "range" = none) (kk:Kinds K):FnOk P w K mg base CX0 1 f fd ["found","due"] (spSame 0):=by
 refine Fun.okR F scSame (fun vs H Q E h=>?_) (fun cdv A outer s H vs Q Q2 E hr h hq=>?_)
 ·obtain ⟨x,y,rfl,_⟩:=h
  rfl
 ·obtain ⟨x,y,rfl,hs,q⟩:=h
  refine ⟨_,pss_cons (ps_if (pt_val (pe_callB call_isi (by rfl) misi boot_isinstance (pa_cons (pv 1) (pa_cons (pe_bltn (v:=.ty "tuple") (by rfl) mtup boot_tuple rfl) pa_nil)))) pss_never pss_nil)
   (pss_cons (ps_if (pt_cmpR op_isN (pv 1) pe_non (nomark _)) (pss_one (ps_ret (pe_cmpR op_isN (pv 0) pe_non (nomark _)))) pss_nil)
   (pss_cons (ps_if (pt_val (pe_callB call_isi (by rfl) misi boot_isinstance (pa_cons (pv 1) (pa_cons (pe_bltn (v:=.ty "str") (by rfl) mstr boot_str rfl) pa_nil)))) (pss_one (ps_ret (pe_and (pe_callB call_isi (by rfl) misi boot_isinstance (pa_cons (pv 0) (pa_cons (pe_bltn (v:=.ty "str") (by rfl) mstr boot_str rfl) pa_nil))) (pe_one (pe_cmpR op_eq (pv 0) (pv 1) (nomark _)))))) pss_nil)
   (pss_cons (ps_if (pw_or (pt_not (pt_val (pe_callB call_isi (by rfl) misi boot_isinstance (pa_cons (pv 0) (pa_cons (pe_bltn (v:=.ty "int") (by rfl) mint boot_int rfl) pa_nil))))) (pw_or1 (pt_cmpR op_ne (pe_callB call_isi (by rfl) misi boot_isinstance (pa_cons (pv 0) (pa_cons (pe_bltn (v:=.ty "bool") (by rfl) mbool boot_bool rfl) pa_nil))) (pe_callB call_isi (by rfl) misi boot_isinstance (pa_cons (pv 1) (pa_cons (pe_bltn (v:=.ty "bool") (by rfl) mbool boot_bool rfl) pa_nil))) (nomark _)))).pt (pss_one (ps_ret pe_bl)) pss_nil)
   (pss_one (ps_ret (pe_cmpR op_eq (pv 0) (pv 1) (nomark _))))))),?_⟩
  have go:Q2 (.bl true) H:=hq _ _ (Rst.same (Same.refl H) q)
  rcases hs with ⟨z,rfl,rfl⟩ | ⟨n,rfl,rfl⟩
  ·refine ⟨_,rfl,_,_,_,_,rfl,.str _,kk.st,_,rfl,iteF ?_⟩
   refine ⟨_,rfl,rfl,_,rfl,iteK (fun z=>nomatch z) ?_⟩
   refine ⟨_,rfl,_,_,_,_,rfl,.str _,kit_same _,_,rfl,iteT ?_⟩
   refine ⟨_,rfl,_,_,_,_,rfl,.str _,kit_same _,true,rfl,iteT ⟨_,rfl,_,rfl,rfl,?_⟩⟩
   rw [decide_eq_true rfl]
   exact go
  ·refine ⟨_,rfl,_,_,_,_,rfl,.int _,kk.it,_,rfl,iteF ?_⟩
   refine ⟨_,rfl,rfl,_,rfl,iteK (fun z=>nomatch z) ?_⟩
   refine ⟨_,rfl,_,_,_,_,rfl,.int _,kk.is_,_,rfl,iteF ?_⟩
   refine ⟨_,rfl,_,_,_,_,rfl,.int _,kit_same _,_,rfl,iteF ?_⟩
   refine ⟨_,rfl,_,_,_,_,rfl,.int _,kk.ib,_,rfl,_,_,_,_,rfl,.int _,kk.ib,rfl,_,rfl,iteNS rfl ?_⟩
   refine ⟨_,rfl,_,rfl,rfl,?_⟩
   rw [decide_eq_true rfl]
   exact go
theorem ok_sameT {n:Nat} {f:Addr} {fd:FuncData} (F:Fun K "_law_same" "_law_same" sSame f fd) (D:Dfn K mg "_law_same" sSame f fd ["found","due"]) (G:FnOk P w K mg base CX0 (n+1) f fd ["found","due"] (spSame n)) (misi:mg "isinstance" = none) (mtup:mg "tuple" = none) (mstr:mg "str" = none) (mint:mg "int" = none) (mbool:mg "bool" = none) (mlen:mg "len" = none) (mrange:mg "range" = none) (kk:Kinds K):FnOk P w K mg base CX0 (n+2) f fd ["found","due"] (spSameT n):=by
 refine Fun.okR F scSame (fun vs H Q E h=>?_) (fun cdv A outer s H vs Q Q2 E hr h hq=>?_)
 ·obtain ⟨p,r,xs,ys,rfl,_⟩:=h
  rfl
 ·obtain ⟨p,r,xs,ys,rfl,hp,hr2,hl,hn,hs,q⟩:=h
  refine ⟨_,pss_cons (ps_if (pt_val (pe_callB call_isi (by rfl) misi boot_isinstance (pa_cons (pv 1) (pa_cons (pe_bltn (v:=.ty "tuple") (by rfl) mtup boot_tuple rfl) pa_nil)))) (pss_cons (ps_if (pw_or (pt_not (pt_val (pe_callB call_isi (by rfl) misi boot_isinstance (pa_cons (pv 0) (pa_cons (pe_bltn (v:=.ty "tuple") (by rfl) mtup boot_tuple rfl) pa_nil))))) (pw_or1 (pt_cmpR op_ne (pe_callB call_len_seq (by rfl) mlen PySem.boot_len (pa_cons (pv 0) pa_nil)) (pe_callB call_len_seq (by rfl) mlen PySem.boot_len (pa_cons (pv 1) pa_nil)) (nomark _)))).pt (pss_one (ps_ret pe_bl)) pss_nil)
   (pss_cons (ps_for PassesOwn.never rfl (pi_range1 (by rfl) mrange (pa_cons (pe_callB call_len_seq (by rfl) mlen PySem.boot_len (pa_cons (pv 1) pa_nil)) pa_nil)) (pg_name (i:=2) scSame.nd rfl (Or.inl rfl)) (pss_one (ps_if (pt_not (pt_val (pe_call G hr (by rfl) D.at_ D.fn.kp D.bn .nil pass0 (pa_cons (pe_ix ix_tup (pv 0) (pv 2) (fun _ _=>rfl)) (pa_cons (pe_ix ix_tup (pv 1) (pv 2) (fun _ _=>rfl)) pa_nil))))) (pss_one (ps_ret pe_bl)) pss_nil)))
   (pss_one (ps_ret pe_bl)))) pss_nil) pss_never,?_⟩
  refine ⟨_,rfl,_,_,_,_,rfl,.tup hr2,kit_same _,_,rfl,iteT ?_⟩
  refine ⟨_,rfl,_,_,_,_,rfl,.tup hp,kit_same _,_,rfl,iteF ?_⟩
  refine ⟨_,rfl,p,_,rfl,.inr (SqT.of hp),_,rfl,r,_,rfl,.inr (SqT.of hr2),rfl,_,rfl,iteNS (by rw [hl]) ?_⟩
  refine ⟨_,rfl,r,_,rfl,.inr (SqT.of hr2),_,rfl,(by omega),(by omega),?_⟩
  rw [Int.toNat_natCast]
  refine for_range (fun i σ H2=>∃ v:Option V,σ=[some (.ref p),some (.ref r),v]/\H2=H) ⟨none,rfl,rfl⟩ ?_ ?_
  ·rintro i σ H2 hi ⟨v,rfl,rfl⟩
   have ei:(0:Int)+((i:Nat):Int)=((i:Nat):Int):=by omega
   rw [ei]
   have hx:i < xs.length:=by omega
   have e1:atI xs ((i:Nat):Int)=some xs[i]:=atI_nat (List.getElem?_eq_getElem hx)
   have e2:atI ys ((i:Nat):Int)=some ys[i]:=atI_nat (List.getElem?_eq_getElem hi)
   exact ⟨_,rfl,_,rfl,p,_,_,_,rfl,rfl,SqT.of hp,e1,_,rfl,_,rfl,r,_,_,_,rfl,rfl,SqT.of hr2,e2,_,_,rfl,hs i _ _ (List.getElem?_eq_getElem hx) (List.getElem?_eq_getElem hi),_,rfl,iteF ⟨_,rfl,rfl⟩⟩
  ·rintro σ H2 ⟨v,rfl,rfl⟩
   exact hq _ _ (Rst.same (Same.refl _) q)
theorem ok_same {f:Addr} {fd:FuncData} (F:Fun K "_law_same" "_law_same" sSame f fd) (D:Dfn K mg "_law_same" sSame f fd ["found","due"]) (misi:mg "isinstance" = none) (mtup:mg "tuple" = none) (mstr:mg "str" = none) (mint:mg "int" = none) (mbool:mg "bool" = none) (mlen:mg "len" = none) (mrange:mg "range" = none) (kk:Kinds K):∀ n:Nat,FnOk P w K mg base CX0 (n+1) f fd ["found","due"] (spSame n)
 | 0=>ok_same0 F misi mtup mstr mint mbool mlen mrange kk
 | n+1=>by
  have G:=ok_same F D misi mtup mstr mint mbool mlen mrange kk n
  refine FnOk.or2 (G.mono (by omega)) (ok_sameT F D G misi mtup mstr mint mbool mlen mrange kk) fun vs H Q E h=>?_
  obtain ⟨x,y,rfl,hs,q⟩:=h
  rcases hs with h | ⟨p,r,xs,ys,rfl,rfl,h⟩
  ·exact .inl ⟨x,y,rfl,h,q⟩
  ·exact .inr ⟨p,r,xs,ys,rfl,h.1,h.2.1,h.2.2.1,h.2.2.2.1,h.2.2.2.2,q⟩
def spLs (K:PySem.W.Frag):Sp:=fun vs H Q _=>∃ (p q r:Addr) (es cs:List Str) (pr:List Int),vs=[.ref p,.ref q,.ref r]/\SqT K H p (es.map V.str)/\SqT K H q (cs.map V.str)/\SqT K H r (pr.map V.int)/\(∀ z ∈ es,Good z)/\(∀ z ∈ cs,Good z)/\es.length<=100/\cs.length<=100/\pr.length=7 ∧
 ∀ (H':Hp) (x t tt:Addr) (ts:List Addr) (sts:List Sk) (R:Nat->Nat->Int) (ps:List Addr) (G:Nat->Nat->Int),Same H H'->H' x=some (.tup [.int (R 0 0),.ref t,.ref tt])->H' t=some (.tup (ts.map V.ref))->TupsAt H' ts sts->Rest (fun i st=>price es i pr st) es.length cs.length (ways es cs) R->Told es cs pr R 0 0 sts->sts.length<=es.length+cs.length->NumsAt H' tt ps es.length cs.length G->Least (fun i st=>price es i pr st) es.length cs.length (ways es cs) G->Q (.ref x) H'
theorem scLs:FnScope ["elder","copy","prices","table"] ["elder","copy","prices"] (defScope sLs):=⟨rfl,rfl,rfl,by decide +kernel,rfl,by decide +kernel,by decide +kernel⟩
theorem ok_ls {f gT gF:Addr} {fd dT dF:FuncData} (F:Fun K "least_slips" "least_slips" sLs f fd) (DT:Dfn K mg "price_table" sPtab gT dT ["elder","copy","prices"]) (GT:FnOk P w K mg base CX0 4 gT dT ["elder","copy","prices"] (spPtab K)) (DF:Dfn K mg "first_cheapest" sFC gF dF ["elder","copy","prices"]) (GF:FnOk P w K mg base CX0 4 gF dF ["elder","copy","prices"] (spFC K)):FnOk P w K mg base CX0 5 f fd ["elder","copy","prices"] (spLs K):=by
 refine F.ok scLs (fun vs H Q E h=>?_) (fun cdv A outer s H vs Q E hr h=>?_)
 ·obtain ⟨p,q,r,es,cs,pr,rfl,_⟩:=h
  rfl
 ·obtain ⟨p,q0,r0,es,cs,pr,rfl,hp,hc,hpr,hge,hgc,hel,hcl,h7,q⟩:=h
  refine ⟨_,pss_cons (ps_set (i:=3) scLs.nd rfl (Or.inl rfl) (pe_call GT hr (by rfl) DT.at_ DT.fn.kp DT.bn .nil pass0 (pa_cons (pv 0) (pa_cons (pv 1) (pa_cons (pv 2) pa_nil)))))
   (pss_one (ps_ret (pe_tup (pa_cons (pe_ix ix_tup (pe_ix ix_tup (pv 3) (pe_un un_neg pe_int) (fun _ _=>rfl)) (pe_un un_neg pe_int) (fun _ _=>rfl)) (pa_cons (pe_call GF hr (by rfl) DF.at_ DF.fn.kp DF.bn .nil pass0 (pa_cons (pv 0) (pa_cons (pv 1) (pa_cons (pv 2) pa_nil)))) (pa_cons (pv 3) pa_nil)))))),?_⟩
  refine ⟨_,rfl,_,rfl,_,rfl,p,q0,r0,es,cs,pr,rfl,hp,hc,hpr,hge,hgc,by omega,by omega,h7,fun H1 tt ps G S1 ht htl hrow hG=>?_⟩
  have hM:NumsAt H1 tt ps es.length cs.length G:=⟨ht,htl,hrow⟩
  obtain ⟨z1,az1,hz1,az2⟩:=nums_last hM
  refine ⟨_,rfl,_,rfl,tt,_,_,_,rfl,rfl,SqT.of hM.top,az1,_,rfl,z1,_,_,_,rfl,rfl,SqT.of hz1,az2,_,rfl,_,rfl,_,rfl,p,q0,r0,es,cs,pr,rfl,sameT S1 hp,sameT S1 hc,sameT S1 hpr,hge,hgc,hel,hcl,h7,fun H2 t ts sts R S2 ht2 hT hR hto hsl=>?_⟩
  obtain ⟨rl1,_⟩:=rest_least (ways_fwd es cs) hG hR
  refine ⟨_,rfl,few (by show 3<=_;omega),fun x hx=>?_⟩
  have S3:=same_upd (o:=.tup [.int (G es.length cs.length),.ref t,.ref tt]) hx
  exact q _ x t tt ts sts R ps G ((S1.trans S2).trans S3) (by rw [upd_same,rl1]) (S3 _ _ ht2) (hT.mono S3) hR hto hsl (hM.mono (S2.trans S3)) hG
theorem sameV_seq {H:Hp} {n:Nat} {p r:Addr} {xs ys:List V} (hp:H p=some (.tup xs)) (hr:H r=some (.tup ys)) (hl:xs.length=ys.length) (hz:ys.length<=100000) (h:∀ (i:Nat) (a b:V),xs[i]?=some a->ys[i]?=some b->SameV H n a b):SameV H (n+1) (.ref p) (.ref r):=.inr ⟨p,r,xs,ys,rfl,rfl,hp,hr,hl,hz,h⟩
theorem step_flat {st:Sk} {v:V} (h:v ∈ stepV st):(∃ z,v=.str z)\/∃ n,v=.int n:=by
 cases st <;> (unfold stepV at h;simp only [List.mem_cons,List.not_mem_nil,or_false] at h) <;> first
  | exact .inl ⟨_,h⟩
  | (rcases h with h | h <;> first | exact .inl ⟨_,h⟩ | exact .inr ⟨_,h⟩)
theorem step_len (st:Sk):(stepV st).length<=2:=by
 cases st <;> first | (show 1<=2;omega) | (show 2<=2;omega)
theorem sameV_told {H:Hp} {t u:Addr} {ts us:List Addr} {sts:List Sk} (ht:H t=some (.tup (ts.map V.ref))) (hu:H u=some (.tup (us.map V.ref))) (hT:TupsAt H ts sts) (hU:TupsAt H us sts) (hl:sts.length<=1000):SameV H 2 (.ref t) (.ref u):=by
 refine sameV_seq ht hu (by rw [List.length_map,List.length_map,hT.len,hU.len]) (by rw [List.length_map,hU.len];omega) fun i x y hx hy=>?_
 obtain ⟨a,ha,rfl⟩:=ref_at hx
 obtain ⟨b,hb,rfl⟩:=ref_at hy
 have hi:i < sts.length:=by rw [<-hT.len];exact (List.getElem?_eq_some_iff.mp ha).1
 have e:=List.getElem?_eq_getElem hi
 refine sameV_seq (hT.item i a _ ha e).1 (hU.item i b _ hb e).1 rfl (by have:=step_len sts[i];omega) fun j v w hv hw=>?_
 rw [hv] at hw
 cases hw
 rcases step_flat (List.mem_of_getElem? hv) with ⟨z,rfl⟩ | ⟨n,rfl⟩
 ·exact .inl ⟨z,rfl,rfl⟩
 ·exact .inr ⟨n,rfl,rfl⟩
abbrev RowZ:=Int × List Sk × List (Nat × Nat)
def extR (pr:Nat->Sk->Int) (a b:Nat) (x:Way) (r:RowZ):RowZ:=(pr a x.1+r.1,x.1 :: r.2.1,(if isK x.1=true then [(a,b)] else [])++r.2.2)
def endR (m n a b:Nat):List RowZ:=if a=m/\b=n then [(0,[],[])] else []
def rowsF (pr:Nat->Sk->Int) (m n:Nat) (W:Nat->Nat->List Way):Nat->Nat->Nat->List RowZ
 | 0,a,b=>endR m n a b
 | k+1,a,b=>endR m n a b++(W a b).flatMap fun x=>(rowsF pr m n W k x.2.1 x.2.2).map (extR pr a b x)
def rowsO (pr:Nat->Sk->Int) (m n:Nat) (W:Nat->Nat->List Way) (a b:Nat):List RowZ:=rowsF pr m n W ((m - a)+(n - b)) a b
theorem flatMap_congr' {α β:Type} {f g:α->List β}:∀ {l:List α},(∀ x ∈ l,f x=g x)->l.flatMap f=l.flatMap g
 | [],_=>rfl
 | x :: r,h=>by rw [List.flatMap_cons,List.flatMap_cons,h x List.mem_cons_self,flatMap_congr' fun y hy=>h y (List.mem_cons_of_mem _ hy)]
section
variable {pr:Nat->Sk->Int} {m n i j:Nat} {W:Nat->Nat->List Way} {R:Nat->Nat->Int}
theorem rows_fuel (hW:Fwd m n W) (hE:W m n=[]):∀ (k l a b:Nat),a<=m->b<=n->(m - a)+(n - b)<=k->(m - a)+(n - b)<=l->rowsF pr m n W k a b=rowsF pr m n W l a b
 | 0,0,a,b,_,_,_,_=>rfl
 | 0,l+1,a,b,ha,hb,hk,_=>by
  have e1:a=m:=by omega
  have e2:b=n:=by omega
  subst e1 e2
  show endR a b a b=endR a b a b++(W a b).flatMap _
  rw [hE,List.flatMap_nil,List.append_nil]
 | k+1,0,a,b,ha,hb,_,hl=>by
  have e1:a=m:=by omega
  have e2:b=n:=by omega
  subst e1 e2
  show endR a b a b++(W a b).flatMap _=endR a b a b
  rw [hE,List.flatMap_nil,List.append_nil]
 | k+1,l+1,a,b,ha,hb,hk,hl=>by
  show endR m n a b++(W a b).flatMap _=endR m n a b++(W a b).flatMap _
  congr 1
  refine flatMap_congr' fun x hx=>?_
  obtain ⟨h1,h2,h3,h4,h5⟩:=hW a b ha hb x hx
  rw [rows_fuel hW hE k l x.2.1 x.2.2 h1 h2 (by omega) (by omega)]
theorem rows_step (hW:Fwd m n W) (hE:W m n=[]) {a b:Nat} (ha:a<=m) (hb:b<=n):rowsO pr m n W a b=endR m n a b++(W a b).flatMap fun x=>(rowsO pr m n W x.2.1 x.2.2).map (extR pr a b x):=by
 have e:rowsO pr m n W a b=rowsF pr m n W ((m - a)+(n - b)+1) a b:=rows_fuel hW hE _ _ a b ha hb (Nat.le_refl _) (Nat.le_succ _)
 rw [e]
 show endR m n a b++(W a b).flatMap _=_
 congr 1
 refine flatMap_congr' fun x hx=>?_
 obtain ⟨h1,h2,h3,h4,h5⟩:=hW a b ha hb x hx
 rw [show rowsF pr m n W ((m - a)+(n - b)) x.2.1 x.2.2=rowsO pr m n W x.2.1 x.2.2 from rows_fuel hW hE _ _ x.2.1 x.2.2 h1 h2 (by omega) (Nat.le_refl _)]
theorem rows_end (hW:Fwd m n W) (hE:W m n=[]):rowsO pr m n W m n=[(0,[],[])]:=by
 rw [rows_step hW hE (Nat.le_refl _) (Nat.le_refl _),hE,List.flatMap_nil,List.append_nil]
 exact if_pos ⟨rfl,rfl⟩
theorem rows_mid (hW:Fwd m n W) (hE:W m n=[]) {a b:Nat} (ha:a<=m) (hb:b<=n) (hn:¬ (a=m/\b=n)):rowsO pr m n W a b=(W a b).flatMap fun x=>(rowsO pr m n W x.2.1 x.2.2).map (extR pr a b x):=by
 rw [rows_step hW hE ha hb,show endR m n a b=[] from if_neg hn,List.nil_append]
theorem rows_le (hW:Fwd m n W) (hE:W m n=[]) (hR:Rest pr m n W R):∀ (k a b:Nat),a<=m->b<=n->(m - a)+(n - b)<=k->∀ r ∈ rowsO pr m n W a b,R a b<=r.1:=by
 intro k
 induction k with
 | zero=>
  intro a b ha hb hk r hr
  have e1:a=m:=by omega
  have e2:b=n:=by omega
  subst e1 e2
  rw [rows_end hW hE] at hr
  rw [List.mem_singleton.mp hr,hR.z]
  exact Int.le_refl _
 | succ k ih=>
  intro a b ha hb hk r hr
  by_cases hn:a=m/\b=n
  ·rw [hn.1,hn.2,rows_end hW hE] at hr
   rw [List.mem_singleton.mp hr,hn.1,hn.2,hR.z]
   exact Int.le_refl _
  ·rw [rows_mid hW hE ha hb hn] at hr
   obtain ⟨x,hx,hr⟩:=List.mem_flatMap.mp hr
   obtain ⟨r',hr',rfl⟩:=List.mem_map.mp hr
   obtain ⟨h1,h2,h3,h4,h5⟩:=hW a b ha hb x hx
   have:=ih x.2.1 x.2.2 h1 h2 (by omega) r' hr'
   have h6:=hR.le a b ha hb x hx
   show R a b<=pr a x.1+r'.1
   omega
def cheapW (pr:Nat->Sk->Int) (W:Nat->Nat->List Way) (R:Nat->Nat->Int) (a b:Nat):List Way:=(W a b).filter fun x=>decide (pr a x.1+R x.2.1 x.2.2=R a b)
def goodO (pr:Nat->Sk->Int) (m n:Nat) (W:Nat->Nat->List Way) (R:Nat->Nat->Int) (a b:Nat):List RowZ:=(rowsO pr m n W a b).filter fun r=>decide (r.1=R a b)
theorem good_end (hW:Fwd m n W) (hE:W m n=[]) (hR:Rest pr m n W R):goodO pr m n W R m n=[(0,[],[])]:=by
 unfold goodO
 rw [rows_end hW hE,List.filter_cons_of_pos (by rw [hR.z];rfl)]
 rfl
theorem filter_flat {α β:Type} {p:β->Bool} {f:α->List β}:∀ l:List α,(l.flatMap f).filter p=l.flatMap fun x=>(f x).filter p
 | []=>rfl
 | x :: r=>by rw [List.flatMap_cons,List.filter_append,filter_flat r,List.flatMap_cons]
theorem flat_filter {α β:Type} {q:α->Bool} {f:α->List β}:∀ l:List α,(∀ x ∈ l,q x=false->f x=[])->l.flatMap f=(l.filter q).flatMap f
 | [],_=>rfl
 | x :: r,h=>by
  have ih:=flat_filter r fun y hy=>h y (List.mem_cons_of_mem _ hy)
  cases hq:q x with
  | true=>rw [List.filter_cons_of_pos hq,List.flatMap_cons,List.flatMap_cons,ih]
  | false=>rw [List.filter_cons_of_neg (by rw [hq];exact Bool.false_ne_true),List.flatMap_cons,h x List.mem_cons_self hq,List.nil_append,ih]
theorem good_mid (hW:Fwd m n W) (hE:W m n=[]) (hR:Rest pr m n W R) {a b:Nat} (ha:a<=m) (hb:b<=n) (hn:¬ (a=m/\b=n)):goodO pr m n W R a b=(cheapW pr W R a b).flatMap fun x=>(goodO pr m n W R x.2.1 x.2.2).map (extR pr a b x):=by
 unfold goodO cheapW
 rw [rows_mid hW hE ha hb hn,filter_flat]
 have key:∀ x ∈ W a b,((rowsO pr m n W x.2.1 x.2.2).map (extR pr a b x)).filter (fun r=>decide (r.1=R a b))=if pr a x.1+R x.2.1 x.2.2=R a b then ((rowsO pr m n W x.2.1 x.2.2).filter fun r=>decide (r.1=R x.2.1 x.2.2)).map (extR pr a b x) else []:=fun x hx=>by
  obtain ⟨h1,h2,h3,h4,h5⟩:=hW a b ha hb x hx
  have h6:=hR.le a b ha hb x hx
  have h7:=rows_le hW hE hR _ x.2.1 x.2.2 h1 h2 (Nat.le_refl _)
  rw [List.filter_map]
  by_cases he:pr a x.1+R x.2.1 x.2.2=R a b
  ·rw [if_pos he]
   congr 1
   refine List.filter_congr fun r hr=>decide_eq_decide.mpr ?_
   show pr a x.1+r.1=R a b ↔ r.1=R x.2.1 x.2.2
   omega
  ·rw [if_neg he,List.map_eq_nil_iff,List.filter_eq_nil_iff]
   intro r hr h
   have h8:=h7 r hr
   have h9:pr a x.1+r.1=R a b:=of_decide_eq_true h
   omega
 rw [flatMap_congr' key]
 refine Eq.trans (flat_filter (q:=fun x=>decide (pr a x.1+R x.2.1 x.2.2=R a b)) (W a b) fun x hx hq=>if_neg (of_decide_eq_false hq)) ?_
 refine flatMap_congr' fun x hx=>?_
 rw [if_pos (of_decide_eq_true (List.mem_filter.mp hx).2)]
theorem cheapW_some (hR:Rest pr m n W R) {a b:Nat} (ha:a<=m) (hb:b<=n) (hn:¬ (a=m/\b=n)):cheapW pr W R a b ≠ []:=fun e=>by
 obtain ⟨x,hx,h⟩:=hR.eq a b ha hb hn
 have:x ∈ cheapW pr W R a b:=List.mem_filter.mpr ⟨hx,decide_eq_true h.symm⟩
 rw [e] at this
 exact nomatch this
theorem good_some (hW:Fwd m n W) (hE:W m n=[]) (hR:Rest pr m n W R):∀ (k a b:Nat),a<=m->b<=n->(m - a)+(n - b)<=k->goodO pr m n W R a b ≠ []:=by
 intro k
 induction k with
 | zero=>
  intro a b ha hb hk
  have e1:a=m:=by omega
  have e2:b=n:=by omega
  subst e1 e2
  rw [good_end hW hE hR]
  exact fun e=>nomatch e
 | succ k ih=>
  intro a b ha hb hk
  by_cases hn:a=m/\b=n
  ·rw [hn.1,hn.2,good_end hW hE hR]
   exact fun e=>nomatch e
  ·rw [good_mid hW hE hR ha hb hn]
   obtain ⟨x,r,e⟩:∃ x r,cheapW pr W R a b=x :: r:=by
    cases e:cheapW pr W R a b with
    | nil=>exact absurd e (cheapW_some hR ha hb hn)
    | cons x r=>exact ⟨x,r,rfl⟩
   have hx:x ∈ W a b:=(List.mem_filter.mp (show x ∈ cheapW pr W R a b by rw [e];exact List.mem_cons_self)).1
   obtain ⟨h1,h2,h3,h4,h5⟩:=hW a b ha hb x hx
   rw [e,List.flatMap_cons]
   intro z
   exact ih x.2.1 x.2.2 h1 h2 (by omega) (List.map_eq_nil_iff.mp (List.append_eq_nil_iff.mp z).1)
inductive ToldW (pr:Nat->Sk->Int) (m n:Nat) (W:Nat->Nat->List Way) (R:Nat->Nat->Int):Nat->Nat->List Sk->Prop
 | nil:ToldW pr m n W R m n []
 | cons {a b:Nat} {x:Way} {r:List Sk}:(cheapW pr W R a b).head?=some x->ToldW pr m n W R x.2.1 x.2.2 r->ToldW pr m n W R a b (x.1 :: r)
theorem head_flat {α β:Type} {f:α->List β} {x:α} {r:List α} (h:f x ≠ []):((x :: r).flatMap f).head?=(f x).head?:=by
 rw [List.flatMap_cons]
 cases e:f x with
 | nil=>exact absurd e h
 | cons y s=>rfl
theorem good_told (hW:Fwd m n W) (hE:W m n=[]) (hR:Rest pr m n W R) {a b:Nat} {sts:List Sk} (h:ToldW pr m n W R a b sts):a<=m->b<=n->((goodO pr m n W R a b).head?).map (fun r=>r.2.1)=some sts:=by
 induction h with
 | nil=>intro _ _;rw [good_end hW hE hR];rfl
 | @cons a b x r hx ht ih=>
  intro ha hb
  obtain ⟨s,es⟩:∃ s,cheapW pr W R a b=x :: s:=by
   cases e:cheapW pr W R a b with
   | nil=>rw [e] at hx;cases hx
   | cons y s=>rw [e] at hx;cases hx;exact ⟨s,rfl⟩
  have hxm:x ∈ W a b:=(List.mem_filter.mp (show x ∈ cheapW pr W R a b by rw [es];exact List.mem_cons_self)).1
  obtain ⟨h1,h2,h3,h4,h5⟩:=hW a b ha hb x hxm
  have hn:¬ (a=m/\b=n):=fun z=>by rw [z.1,z.2,hE] at hxm;exact nomatch hxm
  have hne:(fun x:Way=>(goodO pr m n W R x.2.1 x.2.2).map (extR pr a b x)) x ≠ []:=fun z=>good_some hW hE hR _ x.2.1 x.2.2 h1 h2 (Nat.le_refl _) (List.map_eq_nil_iff.mp z)
  rw [good_mid hW hE hR ha hb hn,es,head_flat (f:=fun x:Way=>(goodO pr m n W R x.2.1 x.2.2).map (extR pr a b x)) (x:=x) (r:=s) hne]
  show (((goodO pr m n W R x.2.1 x.2.2).map (extR pr a b x)).head?).map _=_
  rw [List.head?_map,Option.map_map]
  have:=ih h1 h2
  cases e:(goodO pr m n W R x.2.1 x.2.2).head? with
  | none=>rw [e] at this;cases this
  | some g=>
   rw [e] at this
   have e2:g.2.1=r:=Option.some.inj this
   show some (x.1 :: g.2.1)=_
   rw [e2]
theorem len_flat {α β:Type} {f:α->List β}:∀ l:List α,((l.flatMap f).length:Int)=(l.map fun x=>((f x).length:Int)).sum
 | []=>rfl
 | x :: r=>by rw [List.flatMap_cons,List.length_append,List.map_cons,List.sum_cons,<-len_flat r];omega
theorem sum_congr {α:Type} {f g:α->Int}:∀ {l:List α},(∀ x ∈ l,f x=g x)->(l.map f).sum=(l.map g).sum:=fun {l} h=>by rw [List.map_congr_left h]
theorem good_cnt {t:Nat->Nat->Int} (hW:Fwd m n W) (hE:W m n=[]) (hR:Rest pr m n W R) (ht:Cnt m n (cheapW pr W R) t):∀ (k a b:Nat),a<=m->b<=n->(m - a)+(n - b)<=k->((goodO pr m n W R a b).length:Int)=t a b:=by
 have he:t m n=1:=by rw [ht m n (Nat.le_refl _) (Nat.le_refl _),if_pos (by unfold cheapW;rw [hE];rfl)]
 intro k
 induction k with
 | zero=>
  intro a b ha hb hk
  have e1:a=m:=by omega
  have e2:b=n:=by omega
  subst e1 e2
  rw [good_end hW hE hR,he]
  rfl
 | succ k ih=>
  intro a b ha hb hk
  by_cases hn:a=m/\b=n
  ·rw [hn.1,hn.2,good_end hW hE hR,he]
   rfl
  ·rw [good_mid hW hE hR ha hb hn,len_flat,ht a b ha hb,if_neg (cheapW_some hR ha hb hn)]
   refine sum_congr fun x hx=>?_
   obtain ⟨h1,h2,h3,h4,h5⟩:=hW a b ha hb x (List.mem_filter.mp hx).1
   rw [List.length_map]
   exact ih x.2.1 x.2.2 h1 h2 (by omega)
theorem good_avoid (hW:Fwd m n W) (hE:W m n=[]) (hR:Rest pr m n W R):∀ (k a b:Nat),a<=m->b<=n->(m - a)+(n - b)<=k->(((goodO pr m n W R a b).filter fun r=>!decide ((i,j) ∈ r.2.2)).length:Int)=avoid m n (cheapW pr W R) i j a b:=by
 have hF:Fwd m n (cheapW pr W R):=fun a b ha hb x hx=>hW a b ha hb x (List.mem_filter.mp hx).1
 have hEc:cheapW pr W R m n=[]:=by unfold cheapW;rw [hE];rfl
 have hend:(((goodO pr m n W R m n).filter fun r=>!decide ((i,j) ∈ r.2.2)).length:Int)=avoid m n (cheapW pr W R) i j m n:=by
  rw [good_end hW hE hR,avoid_end]
  rfl
 intro k
 induction k with
 | zero=>
  intro a b ha hb hk
  have e1:a=m:=by omega
  have e2:b=n:=by omega
  subst e1 e2
  exact hend
 | succ k ih=>
  intro a b ha hb hk
  by_cases hn:a=m/\b=n
  ·rw [hn.1,hn.2]
   exact hend
  ·rw [good_mid hW hE hR ha hb hn,filter_flat,avoid_step hF hEc ha hb (cheapW_some hR ha hb hn)]
   rw [flat_filter (q:=fun x=>!(isK x.1 && decide (a=i/\b=j))) (cheapW pr W R a b) fun x hx hq=>?_]
   ·rw [len_flat]
    refine sum_congr fun x hx=>?_
    obtain ⟨hx1,hx2⟩:=List.mem_filter.mp hx
    obtain ⟨h1,h2,h3,h4,h5⟩:=hF a b ha hb x hx1
    rw [<-ih x.2.1 x.2.2 h1 h2 (by omega),List.filter_map,List.length_map]
    have e:((goodO pr m n W R x.2.1 x.2.2).filter ((fun r=>!decide ((i,j) ∈ r.2.2)) ∘ extR pr a b x))=(goodO pr m n W R x.2.1 x.2.2).filter fun r=>!decide ((i,j) ∈ r.2.2):=by
     refine List.filter_congr fun r _=>?_
     show (!decide ((i,j) ∈ (if isK x.1=true then [(a,b)] else [])++r.2.2))=!decide ((i,j) ∈ r.2.2)
     congr 1
     refine decide_eq_decide.mpr ?_
     rw [List.mem_append]
     refine ⟨fun h=>h.elim (fun h=>?_) id,.inr⟩
     cases hk1:isK x.1 with
     | false=>rw [hk1,if_neg Bool.false_ne_true] at h;exact nomatch h
     | true=>
      rw [hk1,if_pos rfl] at h
      have h:=List.mem_singleton.mp h
      rw [hk1,Bool.true_and] at hx2
      have e1:a=i:=(congrArg Prod.fst h).symm
      have e2:b=j:=(congrArg Prod.snd h).symm
      rw [decide_eq_true ⟨e1,e2⟩] at hx2
      cases hx2
    rw [e]
   ·have hq:(isK x.1 && decide (a=i/\b=j))=true:=by
     cases h:(isK x.1 && decide (a=i/\b=j)) with
     | true=>rfl
     | false=>rw [h] at hq;cases hq
    obtain ⟨q1,q2⟩:=Bool.and_eq_true_iff.mp hq
    have q2:=of_decide_eq_true q2
    rw [List.filter_eq_nil_iff]
    intro r hr
    obtain ⟨r',_,rfl⟩:=List.mem_map.mp hr
    have:(i,j) ∈ (extR pr a b x r').2.2:=by
     show (i,j) ∈ (if isK x.1=true then [(a,b)] else [])++r'.2.2
     rw [if_pos q1,q2.1,q2.2]
     exact List.mem_cons_self
    rw [decide_eq_true this]
    exact Bool.false_ne_true
def codeP (n:Nat) (p:Nat × Nat):Nat:=p.1 * (n+1)+p.2
theorem kept_rise (hW:Fwd m n W) (hE:W m n=[]) (hK:∀ a b,a<=m->b<=n->∀ x ∈ W a b,isK x.1=true->x.2=(a+1,b+1)):∀ (k a b:Nat),a<=m->b<=n->(m - a)+(n - b)<=k->∀ r ∈ rowsO pr m n W a b,
  r.2.2.Pairwise (fun p q=>codeP n p < codeP n q)/\∀ p ∈ r.2.2,codeP n (a,b)<=codeP n p/\p.1 < m/\p.2 < n:=by
 intro k
 induction k with
 | zero=>
  intro a b ha hb hk r hr
  have e1:a=m:=by omega
  have e2:b=n:=by omega
  subst e1 e2
  rw [rows_end hW hE] at hr
  rw [List.mem_singleton.mp hr]
  exact ⟨List.Pairwise.nil,fun p hp=>nomatch hp⟩
 | succ k ih=>
  intro a b ha hb hk r hr
  by_cases hn:a=m/\b=n
  ·rw [hn.1,hn.2,rows_end hW hE] at hr
   rw [List.mem_singleton.mp hr]
   exact ⟨List.Pairwise.nil,fun p hp=>nomatch hp⟩
  ·rw [rows_mid hW hE ha hb hn] at hr
   obtain ⟨x,hx,hr⟩:=List.mem_flatMap.mp hr
   obtain ⟨r',hr',rfl⟩:=List.mem_map.mp hr
   obtain ⟨h1,h2,h3,h4,h5⟩:=hW a b ha hb x hx
   obtain ⟨i1,i2⟩:=ih x.2.1 x.2.2 h1 h2 (by omega) r' hr'
   have hmul:a * (n+1)<=x.2.1 * (n+1):=Nat.mul_le_mul_right _ h3
   have hge:codeP n (a,b)<=codeP n (x.2.1,x.2.2):=by
    show a * (n+1)+b<=x.2.1 * (n+1)+x.2.2
    omega
   show ((if isK x.1=true then [(a,b)] else [])++r'.2.2).Pairwise _/\∀ p ∈ (if isK x.1=true then [(a,b)] else [])++r'.2.2,_
   cases hk1:isK x.1 with
   | false=>
    rw [if_neg Bool.false_ne_true,List.nil_append]
    exact ⟨i1,fun p hp=>⟨Nat.le_trans hge (i2 p hp).1,(i2 p hp).2⟩⟩
   | true=>
    rw [if_pos rfl]
    have e:=hK a b ha hb x hx hk1
    have e1:x.2.1=a+1:=congrArg Prod.fst e
    have e2:x.2.2=b+1:=congrArg Prod.snd e
    have hlt:codeP n (a,b) < codeP n (x.2.1,x.2.2):=by
     show a * (n+1)+b < x.2.1 * (n+1)+x.2.2
     omega
    refine ⟨List.Pairwise.cons (fun q hq=>Nat.lt_of_lt_of_le hlt (i2 q hq).1) i1,fun p hp=>?_⟩
    rcases List.mem_cons.mp hp with z | z
    ·rw [z]
     exact ⟨Nat.le_refl _,by show a < m;omega,by show b < n;omega⟩
    ·exact ⟨Nat.le_trans hge (i2 p z).1,(i2 p z).2⟩
theorem rise_eq:∀ {xs ys:List Nat},xs.Pairwise (· < ·)->ys.Pairwise (· < ·)->(∀ c,c ∈ xs ↔ c ∈ ys)->xs=ys
 | [],[],_,_,_=>rfl
 | [],y :: ys,_,_,h=>nomatch (h y).mpr List.mem_cons_self
 | x :: xs,[],_,_,h=>nomatch (h x).mp List.mem_cons_self
 | x :: xs,y :: ys,h1,h2,h=>by
  have p1:=List.pairwise_cons.mp h1
  have p2:=List.pairwise_cons.mp h2
  have e:x=y:=by
   have a1:=(h x).mp List.mem_cons_self
   have a2:=(h y).mpr List.mem_cons_self
   rcases List.mem_cons.mp a1 with z | z
   ·exact z
   ·rcases List.mem_cons.mp a2 with z' | z'
    ·exact z'.symm
    ·have:=p1.1 y z'
     have:=p2.1 x z
     omega
  subst e
  congr 1
  refine rise_eq p1.2 p2.2 fun c=>⟨fun hc=>?_,fun hc=>?_⟩
  ·rcases List.mem_cons.mp ((h c).mp (List.mem_cons_of_mem _ hc)) with z | z
   ·have:=p1.1 c hc;omega
   ·exact z
  ·rcases List.mem_cons.mp ((h c).mpr (List.mem_cons_of_mem _ hc)) with z | z
   ·have:=p2.1 c hc;omega
   ·exact z
theorem in_all (hW:Fwd m n W) (hE:W m n=[]) (hR:Rest pr m n W R):(∀ r ∈ goodO pr m n W R 0 0,(i,j) ∈ r.2.2) ↔ avoid m n (cheapW pr W R) i j 0 0=0:=by
 rw [<-good_avoid hW hE hR _ 0 0 (Nat.zero_le _) (Nat.zero_le _) (Nat.le_refl _)]
 constructor
 ·intro h
  have:((goodO pr m n W R 0 0).filter fun r=>!decide ((i,j) ∈ r.2.2))=[]:=List.filter_eq_nil_iff.mpr fun r hr=>by
   rw [decide_eq_true (h r hr)]
   exact Bool.false_ne_true
  rw [this]
  rfl
 ·intro h r hr
  have hl:((goodO pr m n W R 0 0).filter fun r=>!decide ((i,j) ∈ r.2.2)).length=0:=by omega
  have:=List.length_eq_zero_iff.mp hl
  have h2:=List.filter_eq_nil_iff.mp this r hr
  by_cases hm:(i,j) ∈ r.2.2
  ·exact hm
  ·rw [decide_eq_false hm] at h2
   exact absurd rfl h2
theorem all_codes (hW:Fwd m n W) (hE:W m n=[]) (hR:Rest pr m n W R) (hK:∀ a b,a<=m->b<=n->∀ x ∈ W a b,isK x.1=true->x.2=(a+1,b+1)) {g:RowZ} {gs:List RowZ} (hg:goodO pr m n W R 0 0=g :: gs) {p:Nat->Bool}
  (hp:∀ i j,i < m->j < n->(p (codeP n (i,j))=true ↔ avoid m n (cheapW pr W R) i j 0 0=0)) (hq:∀ c,c < (m+1) * (n+1)->p c=true->c / (n+1) < m/\c % (n+1) < n) :
  (g.2.2.filter fun q=>decide (∀ r ∈ goodO pr m n W R 0 0,q ∈ r.2.2)).map (codeP n)=(List.range ((m+1) * (n+1))).filter p:=by
 have hgm:g ∈ goodO pr m n W R 0 0:=by rw [hg];exact List.mem_cons_self
 obtain ⟨k1,k2⟩:=kept_rise (pr:=pr) hW hE hK _ 0 0 (Nat.zero_le _) (Nat.zero_le _) (Nat.le_refl _) g (List.mem_filter.mp hgm).1
 refine rise_eq ?_ (List.Pairwise.filter _ List.pairwise_lt_range) fun c=>?_
 ·rw [List.pairwise_map]
  exact List.Pairwise.filter _ k1
 ·rw [List.mem_map,List.mem_filter,List.mem_range]
  constructor
  ·rintro ⟨q,hq1,rfl⟩
   obtain ⟨q1,q2⟩:=List.mem_filter.mp hq1
   obtain ⟨_,l1,l2⟩:=k2 q q1
   refine ⟨?_,(hp q.1 q.2 l1 l2).mpr ((in_all hW hE hR).mp (of_decide_eq_true q2))⟩
   have hm1:q.1 * (n+1)<=m * (n+1):=Nat.mul_le_mul_right _ (by omega)
   show q.1 * (n+1)+q.2 < (m+1) * (n+1)
   rw [Nat.succ_mul]
   omega
  ·rintro ⟨hc,hpc⟩
   obtain ⟨l1,l2⟩:=hq c hc hpc
   have ec:codeP n (c / (n+1),c % (n+1))=c:=by
    show c / (n+1) * (n+1)+c % (n+1)=c
    rw [Nat.mul_comm]
    exact Nat.div_add_mod c (n+1)
   have hall:=(in_all (i:=c / (n+1)) (j:=c % (n+1)) hW hE hR).mpr ((hp _ _ l1 l2).mp (by rw [ec];exact hpc))
   exact ⟨(c / (n+1),c % (n+1)),List.mem_filter.mpr ⟨hall g hgm,decide_eq_true hall⟩,ec⟩
theorem rows_many {B:Nat} (hW:Fwd m n W) (hE:W m n=[]) (hB:∀ a b,(W a b).length<=B) (hB1:1<=B):∀ (k a b:Nat),a<=m->b<=n->(m - a)+(n - b)<=k->(rowsO pr m n W a b).length<=B ^ k:=by
 intro k
 induction k with
 | zero=>
  intro a b ha hb hk
  have e1:a=m:=by omega
  have e2:b=n:=by omega
  subst e1 e2
  rw [rows_end hW hE]
  exact Nat.le_refl _
 | succ k ih=>
  intro a b ha hb hk
  by_cases hn:a=m/\b=n
  ·rw [hn.1,hn.2,rows_end hW hE]
   first | exact Nat.pow_pos hB1 | exact Nat.one_le_pow _ _ hB1 | exact Nat.pos_pow hB1
  ·rw [rows_mid hW hE ha hb hn,List.length_flatMap]
   have:∀ (l:List Way),(∀ x ∈ l,x ∈ W a b)->(l.map fun x=>((rowsO pr m n W x.2.1 x.2.2).map (extR pr a b x)).length).sum<=l.length * B ^ k:=by
    intro l
    induction l with
    | nil=>intro _;exact Nat.zero_le _
    | cons x l ihl=>
     intro hl
     obtain ⟨h1,h2,h3,h4,h5⟩:=hW a b ha hb x (hl x List.mem_cons_self)
     have i1:=ih x.2.1 x.2.2 h1 h2 (by omega)
     have i2:=ihl fun y hy=>hl y (List.mem_cons_of_mem _ hy)
     rw [List.map_cons,List.sum_cons,List.length_map,List.length_cons,Nat.succ_mul]
     omega
   refine Nat.le_trans (this (W a b) fun x hx=>hx) ?_
   rw [Nat.pow_succ,Nat.mul_comm]
   exact Nat.mul_le_mul_left _ (hB a b)
end
theorem rows_short {pr:Nat->Sk->Int} {m n:Nat} {W:Nat->Nat->List Way} (hW:Fwd m n W) (hE:W m n=[]):∀ (k a b:Nat),a<=m->b<=n->(m - a)+(n - b)<=k->∀ r ∈ rowsO pr m n W a b,r.2.1.length<=k/\r.2.2.length<=k:=by
 intro k
 induction k with
 | zero=>
  intro a b ha hb hk r hr
  have e1:a=m:=by omega
  have e2:b=n:=by omega
  subst e1 e2
  rw [rows_end hW hE] at hr
  rw [List.mem_singleton.mp hr]
  exact ⟨Nat.le_refl _,Nat.le_refl _⟩
 | succ k ih=>
  intro a b ha hb hk r hr
  by_cases hn:a=m/\b=n
  ·rw [hn.1,hn.2,rows_end hW hE] at hr
   rw [List.mem_singleton.mp hr]
   exact ⟨Nat.zero_le _,Nat.zero_le _⟩
  ·rw [rows_mid hW hE ha hb hn] at hr
   obtain ⟨x,hx,hr⟩:=List.mem_flatMap.mp hr
   obtain ⟨r',hr',rfl⟩:=List.mem_map.mp hr
   obtain ⟨h1,h2,h3,h4,h5⟩:=hW a b ha hb x hx
   obtain ⟨i1,i2⟩:=ih x.2.1 x.2.2 h1 h2 (by omega) r' hr'
   refine ⟨Nat.succ_le_succ i1,?_⟩
   show ((if isK x.1=true then [(a,b)] else [])++r'.2.2).length<=k+1
   rw [List.length_append]
   cases isK x.1 with
   | true=>show 1+_<=_;omega
   | false=>show 0+_<=_;omega
theorem rows_len {es cs:List Str} {pr:List Int} (he:es.length<=3) (hc:cs.length<=3) {a b:Nat} (ha:a<=es.length) (hb:b<=cs.length):(rowsO (fun i st=>price es i pr st) es.length cs.length (ways es cs) a b).length<=262144:=
 rows_many (B:=8) (ways_fwd es cs) (ways_none es cs) (fun a b=>Nat.le_trans (ways_len es cs a b) (by omega)) (by decide) 6 a b ha hb (by omega)
theorem flat_len {α β:Type} {f:α->List β} {B:Nat}:∀ {l:List α},(∀ x ∈ l,(f x).length<=B)->(l.flatMap f).length<=l.length * B
 | [],_=>Nat.zero_le _
 | x :: l,h=>by
  have h1:=h x List.mem_cons_self
  have h2:=flat_len (l:=l) fun y hy=>h y (List.mem_cons_of_mem _ hy)
  rw [List.flatMap_cons,List.length_append,List.length_cons,Nat.succ_mul]
  omega
theorem less {n:Nat} (h:n<=16777215):n < sizeLine:=by rw [sizeLine_eq];omega
theorem lesser {n:Nat} (h:n<=16777215):n<=sizeLine:=Nat.le_of_lt (less h)
def Tz (H H':Hp):Prop:=∀ b xs,H b=some (.tup xs)->H' b=some (.tup xs)
theorem Tz.of {H H':Hp} (S:Same H H'):Tz H H':=fun _ _ e=>S _ _ e
theorem Tz.lst {H:Hp} {l:Addr} {ys:List V} {o:HO} (h:H l=some (.lst ys)):Tz H (upd H l o):=fun b xs e=>by
 rw [upd_ne (fun z=>by rw [z,h] at e;cases e)]
 exact e
theorem Tz.dp {P:Program} {w:World} {H:Hp} {d:Addr} {ys:List Pk} {o:HO} (h:H d=some (DP P w d ys)):Tz H (upd H d o):=fun b xs e=>by
 rw [upd_ne (tup_dp e h)]
 exact e
theorem Tz.sx {l:Addr} {H H':Hp} {ys:List V} (S:Sx l H H') (h:H l=some (.lst ys)):Tz H H':=fun b xs e=>S _ _ (fun z=>by rw [z,h] at e;cases e) e
theorem Tz.sd {P:Program} {w:World} {d:Addr} {H H':Hp} {ys:List Pk} (S:Sx d H H') (h:H d=some (DP P w d ys)):Tz H H':=fun b xs e=>S _ _ (tup_dp e h) e
def Al {α:Type} (R:Addr->α->Prop) (as:List Addr) (xs:List α):Prop:=as.length=xs.length/\∀ (i:Nat) (a:Addr) (x:α),as[i]?=some a->xs[i]?=some x->R a x
theorem Al.nil {α:Type} {R:Addr->α->Prop}:Al R [] []:=⟨rfl,fun i a x e=>by simp at e⟩
theorem Al.imp {α:Type} {R R':Addr->α->Prop} {as:List Addr} {xs:List α} (h:Al R as xs) (f:∀ a x,R a x->R' a x):Al R' as xs:=⟨h.1,fun i a x e1 e2=>f a x (h.2 i a x e1 e2)⟩
theorem Al.one {α:Type} {R:Addr->α->Prop} {a:Addr} {x:α} (h:R a x):Al R [a] [x]:=⟨rfl,fun i b y e1 e2=>by
 match i,e1,e2 with
 | 0,e1,e2=>cases e1;cases e2;exact h
 | i+1,e1,_=>simp at e1⟩
theorem Al.app {α:Type} {R:Addr->α->Prop} {as bs:List Addr} {xs ys:List α} (h:Al R as xs) (h2:Al R bs ys):Al R (as++bs) (xs++ys):=by
 refine ⟨by rw [List.length_append,List.length_append,h.1,h2.1],fun i a x e1 e2=>?_⟩
 by_cases hi:i < as.length
 ·rw [List.getElem?_append_left hi] at e1
  rw [List.getElem?_append_left (by rw [<-h.1];exact hi)] at e2
  exact h.2 i a x e1 e2
 ·rw [List.getElem?_append_right (by omega)] at e1
  rw [List.getElem?_append_right (by rw [<-h.1];omega),<-h.1] at e2
  exact h2.2 _ a x e1 e2
def PairsAt (H:Hp):List Addr->List (Nat × Nat)->Prop:=Al fun a p=>H a=some (.tup [.int ((p.1:Nat):Int),.int ((p.2:Nat):Int)])
def RowAt (H:Hp) (a:Addr) (r:RowZ):Prop:=∃ (t k:Addr) (ts ks:List Addr),H a=some (.tup [.int r.1,.ref t,.ref k])/\H t=some (.tup (ts.map V.ref))/\TupsAt H ts r.2.1/\H k=some (.tup (ks.map V.ref))/\PairsAt H ks r.2.2
def RowsAt (H:Hp):List Addr->List RowZ->Prop:=Al (RowAt H)
theorem Tz.pairs {H H':Hp} {ks:List Addr} {ps:List (Nat × Nat)} (S:Tz H H') (h:PairsAt H ks ps):PairsAt H' ks ps:=Al.imp h fun a p e=>S _ _ e
theorem Tz.tups {H H':Hp} {ts:List Addr} {sts:List Sk} (S:Tz H H') (h:TupsAt H ts sts):TupsAt H' ts sts:=⟨h.len,fun i t st e1 e2=>⟨S _ _ (h.item i t st e1 e2).1,(h.item i t st e1 e2).2⟩⟩
theorem Tz.row {H H':Hp} {a:Addr} {r:RowZ} (S:Tz H H') (h:RowAt H a r):RowAt H' a r:=by
 obtain ⟨t,k,ts,ks,h1,h2,h3,h4,h5⟩:=h
 exact ⟨t,k,ts,ks,S _ _ h1,S _ _ h2,S.tups h3,S _ _ h4,S.pairs h5⟩
theorem Tz.rows {H H':Hp} {as:List Addr} {rs:List RowZ} (S:Tz H H') (h:RowsAt H as rs):RowsAt H' as rs:=Al.imp h fun _ _ e=>S.row e
theorem Tz.arms {H H':Hp} {as:List Addr} {ws:List Way} {g:Way->Int} (S:Tz H H') (h:ArmsAt H as ws g):ArmsAt H' as ws g:=⟨h.len,fun k a x e1 e2=>by
 obtain ⟨t,e,h1,h2,h3,h4⟩:=h.item k a x e1 e2
 exact ⟨t,e,S _ _ h1,S _ _ h2,S _ _ h3,h4⟩⟩
theorem any_none {ys:List Pk} {k:List Key} (h:valP ys k=none):(ys.any fun y=>decide (y.1=k))=false:=by
 unfold valP at h
 rw [Option.map_eq_none_iff,List.find?_eq_none] at h
 rw [List.any_eq_false]
 exact fun y hy=>h y hy
theorem any_some {ys:List Pk} {k:List Key} {v:V} (h:valP ys k=some v):(ys.any fun y=>decide (y.1=k))=true:=by
 unfold valP at h
 obtain ⟨y,hy,_⟩:=Option.map_eq_some_iff.mp h
 exact List.any_eq_true.mpr ⟨y,List.mem_of_find?_eq_some hy,by have:=List.find?_some (p:=fun y:Pk=>decide (y.1=k)) hy;exact this⟩
theorem step_0 (st:Sk):∃ z:Str,atI (stepV st) 0=some (.str z)/\decide (V.str z=.str (Str.ofString "keep"))=isK st:=by
 cases st <;> exact ⟨_,rfl,by first | (show decide (V.str _=V.str _)=true;decide +kernel) | (show decide (V.str _=V.str _)=false;decide +kernel)⟩
def st1 (H:Hp) (d b0 t0 k0 r1 l1:Addr) (o:HO) (x y:Int):Hp:=upd (upd (upd (upd (upd (upd H d o) b0 (.tup [.int x,.int y])) t0 (.tup [])) k0 (.tup [])) r1 (.tup [.int 0,.ref t0,.ref k0])) l1 (.lst [.ref r1])
theorem st1_ok {H:Hp} {d b0 t0 k0 r1 l1:Addr} {o:HO} {x y:Int} (hd:H d=none) (hb:upd H d o b0=none) (ht:upd (upd H d o) b0 (.tup [.int x,.int y]) t0=none) (hk:upd (upd (upd H d o) b0 (.tup [.int x,.int y])) t0 (.tup []) k0=none)
  (hr:upd (upd (upd (upd H d o) b0 (.tup [.int x,.int y])) t0 (.tup [])) k0 (.tup []) r1=none) (hl:upd (upd (upd (upd (upd H d o) b0 (.tup [.int x,.int y])) t0 (.tup [])) k0 (.tup [])) r1 (.tup [.int 0,.ref t0,.ref k0]) l1=none) :
  Same H (st1 H d b0 t0 k0 r1 l1 o x y)/\st1 H d b0 t0 k0 r1 l1 o x y d=some o/\st1 H d b0 t0 k0 r1 l1 o x y b0=some (.tup [.int x,.int y])/\st1 H d b0 t0 k0 r1 l1 o x y l1=some (.lst ([r1].map V.ref))/\RowsAt (st1 H d b0 t0 k0 r1 l1 o x y) [r1] [(0,[],[])]:=by
 have S1:=same_upd (o:=o) hd
 have S2:=same_upd (o:=.tup [.int x,.int y]) hb
 have S3:=same_upd (o:=.tup []) ht
 have S4:=same_upd (o:=.tup []) hk
 have S5:=same_upd (o:=.tup [.int 0,.ref t0,.ref k0]) hr
 have S6:=same_upd (o:=.lst [.ref r1]) hl
 have S46:=(S4.trans S5).trans S6
 refine ⟨((S1.trans S2).trans S3).trans S46,(S2.trans S3).trans S46 _ _ upd_same,S3.trans S46 _ _ upd_same,upd_same,Al.one ⟨t0,k0,[],[],S6 _ _ upd_same,S46 _ _ upd_same,TupsAt.nil,S5.trans S6 _ _ upd_same,Al.nil⟩⟩
def DoneAt (H:Hp) (pr:Nat->Sk->Int) (m n:Nat) (W:Nat->Nat->List Way) (ys:List Pk) (t:Nat):Prop:=∀ a b,a<=m->b<=n->((m+1) * (n+1)<=a * (n+1)+b+t\/(a=m/\b=n))->∃ l as,valP ys (kp a b)=some (.ref l)/\H l=some (.lst (as.map V.ref))/\RowsAt H as (rowsO pr m n W a b)
def spARows (K:PySem.W.Frag):Sp:=fun vs H Q _=>∃ (p q r:Addr) (es cs:List Str) (pr:List Int),vs=[.ref p,.ref q,.ref r]/\SqT K H p (es.map V.str)/\SqT K H q (cs.map V.str)/\SqT K H r (pr.map V.int)/\(∀ z ∈ es,Good z)/\(∀ z ∈ cs,Good z)/\es.length<=3/\cs.length<=3/\pr.length=7 ∧
 ∀ (H':Hp) (l:Addr) (as:List Addr),Same H H'->H' l=some (.lst (as.map V.ref))->RowsAt H' as (rowsO (fun i st=>price es i pr st) es.length cs.length (ways es cs) 0 0)->Q (.ref l) H'
theorem scARows:FnScope ["elder","copy","prices","rows","knot","step","end","price","kept","row"] ["elder","copy","prices"] (defScope sARows):=⟨rfl,rfl,rfl,by decide +kernel,rfl,by decide +kernel,by decide +kernel⟩
theorem ok_arows {f gK gA:Addr} {fd dK dA:FuncData} (F:Fun K "_law_all_rows" "_law_all_rows" sARows f fd) (DK:Dfn K mg "_law_knots" sKnots gK dK ["elder","copy"]) (GK:FnOk P w K mg base CX0 3 gK dK ["elder","copy"] (spKnO K)) (DA:Dfn K mg "_law_arms" sArms gA dA ["elder","copy","prices","i","j"]) (GA:FnOk P w K mg base CX0 3 gA dA ["elder","copy","prices","i","j"] (spArms K)) (mlen:mg "len" = none) (mrev:mg "reversed" = none):FnOk P w K mg base CX0 4 f fd ["elder","copy","prices"] (spARows K):=by
 refine F.ok scARows (fun vs H Q E h=>?_) (fun cdv A outer s H vs Q E hr h=>?_)
 ·obtain ⟨p,q,r,es,cs,pr,rfl,_⟩:=h
  rfl
 ·obtain ⟨p,q0,r0,es,cs,pr,rfl,hp,hc,hpr,hge,hgc,hel,hcl,h7,q⟩:=h
  refine ⟨_,pss_cons (ps_set (i:=3) scARows.nd rfl (Or.inl rfl) (pe_dispP hr.units (pe_tup (pa_cons (pe_callB call_len_seq (by rfl) mlen PySem.boot_len (pa_cons (pv 0) pa_nil)) (pa_cons (pe_callB call_len_seq (by rfl) mlen PySem.boot_len (pa_cons (pv 1) pa_nil)) pa_nil))) (pe_lst (pa_cons (pe_tup (pa_cons pe_int (pa_cons (pe_tup pa_nil) (pa_cons (pe_tup pa_nil) pa_nil)))) pa_nil))))
   (pss_cons (ps_for PassesOwn.never rfl (pi_rev (by rfl) mrev (pa_cons (pe_call GK hr (by rfl) DK.at_ DK.fn.kp DK.bn .nil pass0 (pa_cons (pv 0) (pa_cons (pv 1) pa_nil))) pa_nil)) (pg_name (i:=4) scARows.nd rfl (Or.inl rfl))
   (pss_cons (ps_mid (ps_if (pt_cmpR (op_notInP hr.units) (pv 4) (pv 3) (by with_unfolding_all rfl)) (pss_one (ps_asg (pe_lst pa_nil) (pg_sub (pv 3) (pv 4) (set_dictP hr.units)))) pss_nil))
   (pss_one (ps_for PassesOwn.never rfl (pi_list (pe_call GA hr (by rfl) DA.at_ DA.fn.kp DA.bn .nil pass0 (pa_cons (pv 0) (pa_cons (pv 1) (pa_cons (pv 2) (pa_cons (pe_ix ix_tup (pv 4) pe_int (fun _ _=>rfl)) (pa_cons (pe_ix ix_tup (pv 4) pe_int (fun _ _=>rfl)) pa_nil))))))) (pg_tup (n:=3) rfl (pgs_cons (pg_name (i:=5) scARows.nd rfl (Or.inl rfl)) (pgs_cons (pg_name (i:=6) scARows.nd rfl (Or.inl rfl)) (pgs_cons (pg_name (i:=7) scARows.nd rfl (Or.inl rfl)) pgs_nil))))
   (pss_cons (ps_set (i:=8) scARows.nd rfl (Or.inl rfl) (pe_tup pa_nil))
   (pss_cons (ps_mid (ps_if (pt_cmpR op_eq (pe_ix ix_tup (pv 5) pe_int (fun _ _=>rfl)) pe_str (nomark _)) (pss_one (ps_set (i:=8) scARows.nd rfl (Or.inl rfl) (pe_tup (pa_cons (pv 4) pa_nil)))) pss_nil))
   (pss_one (ps_for PassesOwn.never rfl (pi_list (pe_datP rfl rfl hr.units (pv 3) (pv 6) (fun _ _=>rfl))) (pg_name (i:=9) scARows.nd rfl (Or.inl rfl))
   (pss_one (ps_expr (pe_bm PySem.F.plainAttrs_list PySem.F.slot_list_append PySem.F.type_list_append mt_append (pe_datP rfl rfl hr.units (pv 3) (pv 4) (fun _ _=>rfl)) (pa_cons (pe_tup (pa_cons (pe_op op_add (pv 7) (pe_ix ix_tup (pv 9) pe_int (fun _ _=>rfl))) (pa_cons (pe_op op_catH (pe_tup (pa_cons (pv 5) pa_nil)) (pe_ix ix_tup (pv 9) pe_int (fun _ _=>rfl))) (pa_cons (pe_op op_catH (pv 8) (pe_ix ix_tup (pv 9) pe_int (fun _ _=>rfl))) pa_nil)))) pa_nil))))))))))))
   (pss_one (ps_ret (pe_datP rfl rfl hr.units (pv 3) (pe_tup (pa_cons pe_int (pa_cons pe_int pa_nil))) (fun _ _=>rfl))))),?_⟩
  have hle:(es.map V.str).length=es.length:=List.length_map ..
  have hlc:(cs.map V.str).length=cs.length:=List.length_map ..
  refine fun d hd=>⟨_,rfl,p,_,rfl,.inr (sameT (same_upd hd) hp),_,rfl,q0,_,rfl,.inr (sameT (same_upd hd) hc),few (by show 2<=_;omega),fun b0 hb0=>?_⟩
  rw [hle,hlc]
  refine ⟨Nat.zero_le _,fun t0 ht0=>⟨Nat.zero_le _,fun k0 hk0=>⟨few (by show 3<=_;omega),fun r1 hr1=>⟨few (by show 1<=_;omega),fun l1 hl1=>?_⟩⟩⟩⟩
  obtain ⟨Z1,Z2,Z3,Z4,Z5⟩:=st1_ok (o:=DP P w d []) hd hb0 ht0 hk0 hr1 hl1
  refine ⟨b0,kp es.length cs.length,rfl,Z3,Z2,?_⟩
  have nl1:l1 ≠ d:=lst_dp Z4 Z2
  have nb0:b0 ≠ d:=tup_dp Z3 Z2
  have S0:Same H (upd (st1 H d b0 t0 k0 r1 l1 (DP P w d []) ((es.length:Nat):Int) ((cs.length:Nat):Int)) d (DP P w d [(kp es.length cs.length,b0,.ref l1)])):=same_to Z1 hd
  have Y1:upd (st1 H d b0 t0 k0 r1 l1 (DP P w d []) ((es.length:Nat):Int) ((cs.length:Nat):Int)) d (DP P w d [(kp es.length cs.length,b0,.ref l1)]) d=some (DP P w d [(kp es.length cs.length,b0,.ref l1)]):=upd_same
  have Y2:upd (st1 H d b0 t0 k0 r1 l1 (DP P w d []) ((es.length:Nat):Int) ((cs.length:Nat):Int)) d (DP P w d [(kp es.length cs.length,b0,.ref l1)]) l1=some (.lst ([r1].map V.ref)):=by rw [upd_ne nl1];exact Z4
  have Y3:upd (st1 H d b0 t0 k0 r1 l1 (DP P w d []) ((es.length:Nat):Int) ((cs.length:Nat):Int)) d (DP P w d [(kp es.length cs.length,b0,.ref l1)]) b0=some (.tup ((kp es.length cs.length).map kV)):=by rw [upd_ne nb0];exact Z3
  have Y4:RowsAt (upd (st1 H d b0 t0 k0 r1 l1 (DP P w d []) ((es.length:Nat):Int) ((cs.length:Nat):Int)) d (DP P w d [(kp es.length cs.length,b0,.ref l1)])) [r1] [(0,[],[])]:=(Tz.dp Z2).rows Z5
  refine ⟨_,rfl,_,rfl,p,q0,_,_,rfl,sameT S0 hp,sameT S0 hc,by omega,by omega,fun H1 lk ks S1 hlk hkl hk=>?_⟩
  rw [hle,hlc] at hkl
  rw [hlc] at hk
  have SH1:=S0.trans S1
  have h1d:=S1 _ _ Y1
  have h1l:=S1 _ _ Y2
  have h1b:=S1 _ _ Y3
  have h1r:=(Tz.of S1).rows Y4
  clear Y1 Y2 Y3 Y4 Z1 Z2 Z3 Z4 Z5
  have n1:=lst_dp hlk h1d
  have lks:(ks.map V.ref).length=(es.length+1) * (cs.length+1):=by rw [List.length_map];exact hkl
  have hNs:(es.length+1) * (cs.length+1)<=4 * 4:=Nat.mul_le_mul (by omega) (by omega)
  have hWf:=ways_fwd es cs
  have hWn:=ways_none es cs
  refine ⟨lk,_,rfl,SqL.of hlk,for_rev (K:=K) (a:=lk) (xs:=ks.map V.ref) (fun t σ H2=>∃ (ys:List Pk) (v4 v5 v6 v7 v8 v9:Option V),σ=[some (.ref p),some (.ref q0),some (.ref r0),some (.ref d),v4,v5,v6,v7,v8,v9]/\H2 d=some (DP P w d ys)/\KeysAt H2 ys/\ys.length<=t+1/\DoneAt H2 (fun i st=>price es i pr st) es.length cs.length (ways es cs) ys t/\(∀ a b,a<=es.length->b<=cs.length->a * (cs.length+1)+b+t < (es.length+1) * (cs.length+1)->¬ (a=es.length/\b=cs.length)->valP ys (kp a b)=none)/\Sx d H1 H2/\Same H H2)
   ⟨[(kp es.length cs.length,b0,.ref l1)],none,none,none,none,none,none,rfl,h1d,(fun y hy=>by rw [List.mem_singleton.mp hy];exact h1b),Nat.le_refl _,?i1,?i2,Sx.of (Same.refl _),SH1⟩ (fun t σ H2 _ ⟨_,_,_,_,_,_,_,_,_,_,_,_,_,Sxx,_⟩=>SqL.of (Sxx _ _ n1 hlk)) ?_ ?_⟩
  case i1=>
   intro a b ha hb h
   rcases h with h | ⟨rfl,rfl⟩
   ·exact absurd h (by have:=code_lt ha hb;omega)
   ·refine ⟨l1,[r1],?_,h1l,by rw [rows_end hWf hWn];exact h1r⟩
    unfold valP
    simp
  case i2=>
   intro a b ha hb _ hn
   unfold valP
   have:¬ kp es.length cs.length=kp a b:=fun z=>hn ⟨(kp_inj z).1.symm,(kp_inj z).2.symm⟩
   simp [this]
  ·rintro t y σ H2 ht hy ⟨ys,v4,v5,v6,v7,v8,v9,rfl,h2d,hkk,hyl,hDo,hNo,X2,S2⟩
   rw [lks] at ht hy
   obtain ⟨a,hna,rfl⟩:=ref_at hy
   have hnl:(es.length+1) * (cs.length+1) - 1 - t < (es.length+1) * (cs.length+1):=by omega
   obtain ⟨hi,hj⟩:=knot_in hnl
   have h1a:=hk _ a hna
   have ha:=X2 _ _ (tup_dp h1a h1d) h1a
   unfold knotV at ha
   have ecode:((es.length+1) * (cs.length+1) - 1 - t) / (cs.length+1) * (cs.length+1)+((es.length+1) * (cs.length+1) - 1 - t) % (cs.length+1)+t+1=(es.length+1) * (cs.length+1):=by
    have:=Nat.div_add_mod ((es.length+1) * (cs.length+1) - 1 - t) (cs.length+1)
    rw [Nat.mul_comm] at this
    omega
   generalize ((es.length+1) * (cs.length+1) - 1 - t) / (cs.length+1)=i at ha hi ecode
   generalize ((es.length+1) * (cs.length+1) - 1 - t) % (cs.length+1)=j at ha hj ecode
   have hak:H2 a=some (.tup ((kp i j).map kV)):=ha
   refine ⟨fun σ3 H3=>∃ (ys3:List Pk) (l0:Addr) (as0:List Addr),σ3=[some (.ref p),some (.ref q0),some (.ref r0),some (.ref d),some (.ref a),v5,v6,v7,v8,v9]/\H3 d=some (DP P w d ys3)/\KeysAt H3 ys3/\ys3.length<=t+2/\valP ys3 (kp i j)=some (.ref l0)/\(∀ a' b',¬ (a'=i/\b'=j)->valP ys3 (kp a' b')=valP ys (kp a' b'))/\H3 l0=some (.lst (as0.map V.ref))/\RowsAt H3 as0 (endR es.length cs.length i j)/\(H2 l0=none\/(i=es.length/\j=cs.length))/\Sx d H2 H3/\Same H H3,?_,?_⟩
   ·refine ⟨_,rfl,_,rfl,d,ys,kp i j,a,rfl,rfl,h2d,hkk,hak,_,rfl,?_⟩
    by_cases hend:i=es.length/\j=cs.length
    ·obtain ⟨l,as,hv,hl,hR⟩:=hDo i j hi hj (.inr hend)
     rw [any_some hv]
     refine iteF ⟨ys,l,as,rfl,h2d,hkk,by omega,hv,fun _ _ _=>rfl,hl,?_,.inr hend,Sx.of (Same.refl _),S2⟩
     rw [show endR es.length cs.length i j=[(0,[],[])] from if_pos hend]
     rw [hend.1,hend.2,rows_end hWf hWn] at hR
     exact hR
    ·have hv:=hNo i j hi hj (by omega) hend
     rw [any_none hv]
     refine iteT ⟨Nat.zero_le _,fun l0 hl0=>?_⟩
     have T3:=same_upd (o:=.lst []) hl0
     have h3d:=T3 _ _ h2d
     have hk3:KeysAt (upd H2 l0 (.lst [])) ys:=fun y hy=>T3 _ _ (hkk y hy)
     have ha3:=T3 _ _ hak
     refine ⟨_,rfl,_,rfl,d,ys,kp i j,a,rfl,rfl,h3d,hk3,ha3,fewer (by omega),?_⟩
     have nl:l0 ≠ d:=fun z=>by rw [z,h2d] at hl0;cases hl0
     refine ⟨putP ys (kp i j) a (.ref l0),l0,[],rfl,upd_same,hk3.put ha3 (fun c zs h=>by rw [upd_ne (tup_dp h h3d)];exact h),by have:=putP_len ys (kp i j) a (.ref l0);omega,by rw [valP_put,if_pos rfl],fun a' b' hne=>by rw [valP_put,if_neg (fun z=>hne (kp_inj z))],by rw [upd_ne nl];exact upd_same,?_,.inl hl0,(Sx.of T3).trans Sx.upd,same_to (S2.trans T3) hd⟩
     rw [show endR es.length cs.length i j=[] from if_neg hend]
     exact Al.nil
   ·rintro σ3 H3 ⟨ys3,l0,as0,rfl,h3d,hk3,hyl3,hv0,hvo,h3l,hR3,hfr,X3,S3⟩
    have ha3:=X3 _ _ (tup_dp ha h2d) ha
    have hak3:H3 a=some (.tup ((kp i j).map kV)):=ha3
    refine ⟨_,rfl,_,rfl,_,rfl,_,rfl,a,_,_,_,rfl,rfl,SqT.of ha3,rfl,_,rfl,a,_,_,_,rfl,rfl,SqT.of ha3,rfl,p,q0,r0,es,cs,pr,i,j,rfl,sameT S3 hp,sameT S3 hc,sameT S3 hpr,hge,hgc,hi,hj,by omega,h7,fun H4 la as S4 hla hA=>?_⟩
    have h4l:=S4 _ _ h3l
    have h4d:=S4 _ _ h3d
    have hR4:=(Tz.of S4).rows hR3
    have nld:l0 ≠ d:=lst_dp h4l h4d
    have hendas:(i=es.length/\j=cs.length)->as=[]:=fun hend=>by
     have:=hA.len
     rw [hend.1,hend.2,hWn] at this
     exact List.length_eq_zero_iff.mp this
    have nla:as=[]\/la ≠ l0:=by
     by_cases e:la=l0
     ·left
      by_cases hend:i=es.length/\j=cs.length
      ·exact hendas hend
      ·have e0:as0=[]:=by
        have:=hR4.1
        rw [show endR es.length cs.length i j=[] from if_neg hend] at this
        exact List.length_eq_zero_iff.mp this
       rw [e,h4l,e0] at hla
       injection hla with h1
       injection h1 with h2
       exact List.map_eq_nil_iff.mp h2.symm
     ·exact .inr e
    have hwl:=Nat.le_trans (ways_len es cs i j) (show es.length+5<=8 by omega)
    have hfw:=hWf i j hi hj
    refine ⟨la,rfl,⟨_,SqL.of hla⟩,for_list (K:=K) (a:=la) (xs:=as.map V.ref) (fun k σ H5=>∃ (bs:List Addr) (v5 v6 v7 v8 v9:Option V),σ=[some (.ref p),some (.ref q0),some (.ref r0),some (.ref d),some (.ref a),v5,v6,v7,v8,v9]/\H5 la=some (.lst (as.map V.ref))/\H5 l0=some (.lst (bs.map V.ref))/\RowsAt H5 bs (endR es.length cs.length i j++((ways es cs i j).take k).flatMap fun x=>(rowsO (fun i st=>price es i pr st) es.length cs.length (ways es cs) x.2.1 x.2.2).map (extR (fun i st=>price es i pr st) i j x))/\Sx l0 H4 H5/\(as=[]->H5=H4))
     ⟨as0,v5,v6,v7,v8,v9,rfl,hla,h4l,by rw [List.take_zero,List.flatMap_nil,List.append_nil];exact hR4,Sx.of (Same.refl _),fun _=>rfl⟩ (fun k σ H5 _ ⟨_,_,_,_,_,_,_,h,_⟩=>SqL.of h) ?_ ?_⟩
    ·rintro k y σ H5 hky ⟨bs,w5,w6,w7,w8,w9,rfl,h5la,h5l,hR5,X5,_⟩
     obtain ⟨b,hbk,rfl⟩:=ref_at hky
     have hne:as ≠ []:=fun z=>by rw [z] at hbk;simp at hbk
     have nl:=nla.resolve_left hne
     have hkw:k < (ways es cs i j).length:=by rw [<-hA.len];exact (List.getElem?_eq_some_iff.mp hbk).1
     have hwk:=List.getElem?_eq_getElem hkw
     have Z5:=Tz.sx X5 h4l
     obtain ⟨tt,e,hb,he,htt,hok⟩:=(Z5.arms hA).item k b _ hbk hwk
     have hxm:=List.getElem_mem hkw
     have htk:(ways es cs i j).take (k+1)=(ways es cs i j).take k++[(ways es cs i j)[k]]:=List.take_succ_eq_append_getElem hkw
     generalize (ways es cs i j)[k]=x at hb he htt hok hxm htk
     have hw:=hfw _ hxm
     have hbl:bs.length<=1+8 * 262144:=by
      rw [hR5.1,List.length_append]
      have h1:(endR es.length cs.length i j).length<=1:=by unfold endR;split <;> simp
      have h2:=flat_len (l:=(ways es cs i j).take k) (B:=262144) (f:=fun x=>(rowsO (fun i st=>price es i pr st) es.length cs.length (ways es cs) x.2.1 x.2.2).map (extR (fun i st=>price es i pr st) i j x)) fun y hy=>by
       have hy:=hfw y (List.mem_of_mem_take hy)
       rw [List.length_map]
       exact rows_len hel hcl hy.1 hy.2.1
      have h3:((ways es cs i j).take k).length<=8:=by rw [List.length_take];omega
      have h4:((ways es cs i j).take k).length * 262144<=8 * 262144:=Nat.mul_le_mul_right _ h3
      omega
     refine ⟨b,_,rfl,SqT.of hb,rfl,_,_,rfl,_,_,rfl,_,_,rfl,rfl,Nat.zero_le _,fun kt hkt=>?_⟩
     have T6:=same_upd (o:=.tup []) hkt
     refine ⟨fun σ7 H7=>∃ (kq:Addr) (kqs:List Addr),σ7=[some (.ref p),some (.ref q0),some (.ref r0),some (.ref d),some (.ref a),some (.ref tt),some (.ref e),some (.int (price es i pr x.1)),some (.ref kq),w9]/\H7 kq=some (.tup (kqs.map V.ref))/\PairsAt H7 kqs (if isK x.1=true then [(i,j)] else [])/\Same H5 H7,?_,?_⟩
     ·obtain ⟨z,hz,hzk⟩:=step_0 x.1
      refine ⟨_,rfl,tt,_,_,_,rfl,rfl,SqT.of (T6 _ _ htt),hz,rfl,_,rfl,?_⟩
      rw [hzk]
      cases hkx:isK x.1 with
      | false=>exact iteF ⟨kt,[],rfl,upd_same,by rw [if_neg Bool.false_ne_true];exact Al.nil,T6⟩
      | true=>
       refine iteT ⟨_,rfl,few (by show 1<=_;omega),fun kq hkq=>?_⟩
       have T7:=same_upd (o:=.tup [V.ref a]) hkq
       exact ⟨kq,[a],rfl,upd_same,by rw [if_pos rfl];exact Al.one (T7 _ _ (T6 _ _ (Z5 _ _ (S4 _ _ ha3)))),T6.trans T7⟩
     ·rintro σ7 H7 ⟨kq,kqs,rfl,h7q,hq7,S57⟩
      have hahead:i * (cs.length+1)+j < x.2.1 * (cs.length+1)+x.2.2:=(code_ord hj hw.2.1).mp (by omega)
      obtain ⟨l',as',hv',hl2,hRl2⟩:=hDo x.2.1 x.2.2 hw.1 hw.2.1 (.inl (by omega))
      have hne':¬ (x.2.1=i/\x.2.2=j):=by omega
      have hv3:=(hvo _ _ hne').trans hv'
      have hend:¬ (i=es.length/\j=cs.length):=by omega
      have h2l0:H2 l0=none:=hfr.resolve_right hend
      have nl':l' ≠ l0:=fun z=>by rw [z,h2l0] at hl2;cases hl2
      have hl3:=X3 _ _ (lst_dp hl2 h2d) hl2
      have hl7:=S57 _ _ (X5 _ _ nl' (S4 _ _ hl3))
      have hRl7:=(Tz.of S57).rows (Z5.rows ((Tz.of S4).rows ((Tz.sd X3 h2d).rows hRl2)))
      have h7l:=S57 _ _ h5l
      have h7d:=S57 _ _ (X5 _ _ (Ne.symm nld) h4d)
      have hk7:KeysAt H7 ys3:=fun y hy=>S57 _ _ (Z5 _ _ (S4 _ _ (hk3 y hy)))
      have he7:=S57 _ _ he
      have htt7:=S57 _ _ htt
      have ha7:H7 a=some (.tup ((kp i j).map kV)):=S57 _ _ (Z5 _ _ (S4 _ _ hak3))
      have hrl:=rows_len (pr:=pr) hel hcl hw.1 hw.2.1
      have hsh:=rows_short (pr:=fun i st=>price es i pr st) hWf hWn 6 x.2.1 x.2.2 hw.1 hw.2.1 (by omega)
      generalize hRW:rowsO (fun i st=>price es i pr st) es.length cs.length (ways es cs) x.2.1 x.2.2=RW at hRl7 hrl hsh
      refine ⟨_,rfl,_,rfl,d,ys3,kp x.2.1 x.2.2,e,.ref l',rfl,rfl,h7d,hk7,he7,hv3,l',rfl,⟨_,SqL.of hl7⟩,for_list (K:=K) (a:=l') (xs:=as'.map V.ref) (fun qn σ H8=>∃ (gs:List Addr) (v9:Option V),σ=[some (.ref p),some (.ref q0),some (.ref r0),some (.ref d),some (.ref a),some (.ref tt),some (.ref e),some (.int (price es i pr x.1)),some (.ref kq),v9]/\H8 l0=some (.lst ((bs++gs).map V.ref))/\RowsAt H8 gs ((RW.take qn).map (extR (fun i st=>price es i pr st) i j x))/\Sx l0 H7 H8)
       ⟨[],w9,rfl,by rw [List.append_nil];exact h7l,by rw [List.take_zero];exact Al.nil,Sx.of (Same.refl _)⟩ (fun qn σ H8 _ ⟨_,_,_,_,_,X8⟩=>SqL.of (X8 _ _ nl' hl7)) ?_ ?_⟩
      ·rintro qn y σ H8 hqy ⟨gs,v9',rfl,h8l,hG8,X8⟩
       obtain ⟨r,hrk,rfl⟩:=ref_at hqy
       have hqw:qn < RW.length:=by rw [<-hRl7.1];exact (List.getElem?_eq_some_iff.mp hrk).1
       have hqe:=List.getElem?_eq_getElem hqw
       have Z8:=Tz.sx X8 h7l
       obtain ⟨t9,k9,ts,ks9,hr8,ht8,hT8,hk9,hP8⟩:=Z8.row (hRl7.2 qn r _ hrk hqe)
       obtain ⟨sl1,sl2⟩:=hsh _ (List.getElem_mem hqw)
       have htq:RW.take (qn+1)=RW.take qn++[RW[qn]]:=List.take_succ_eq_append_getElem hqw
       generalize RW[qn]=rz at hr8 hT8 hP8 sl1 sl2 htq
       have h8d:=X8 _ _ (Ne.symm nld) h7d
       have hk8:KeysAt H8 ys3:=fun y hy=>Z8 _ _ (hk7 y hy)
       have ha8:=Z8 _ _ ha7
       have hgl:gs.length<=262144:=by rw [hG8.1,List.length_map,List.length_take];omega
       have hkl2:kqs.length<=1:=by
        rw [hq7.1]
        split
        ·exact Nat.le_refl _
        ·exact Nat.zero_le _
       refine ⟨_,rfl,_,rfl,d,ys3,kp i j,a,.ref l0,rfl,rfl,h8d,hk8,ha8,hv0,.inl ⟨rfl,_,SqL.of h8l⟩,_,rfl,_,rfl,r,_,_,_,rfl,rfl,SqT.of hr8,atI_nat (j:=0) rfl,_,_,rfl,rfl,_,rfl,few (by show 1<=_;omega),fun u1 hu1=>?_⟩
       have T9:=same_upd (o:=.tup [V.ref tt]) hu1
       refine ⟨_,rfl,r,_,_,_,rfl,rfl,SqT.of (T9 _ _ hr8),atI_nat (j:=1) rfl,u1,t9,[.ref tt],_,rfl,rfl,upd_same,T9 _ _ ht8,few (by rw [List.length_map,hT8.len];show 1+_<=_;omega),fun g1 H10 S10 hg1=>?_⟩
       have S810:=T9.trans S10
       refine ⟨_,rfl,_,rfl,r,_,_,_,rfl,rfl,SqT.of (S810 _ _ hr8),atI_nat (j:=2) rfl,kq,k9,_,_,rfl,rfl,S810 _ _ (Z8 _ _ h7q),S810 _ _ hk9,few (by rw [List.length_map,List.length_map,hP8.1];omega),fun g2 H11 S11 hg2=>?_⟩
       refine ⟨few (by show 3<=_;omega),fun nr hnr=>?_⟩
       have T12:=same_upd (o:=.tup [V.int (price es i pr x.1+rz.1),.ref g1,.ref g2]) hnr
       have S812:=(S810.trans S11).trans T12
       have h12l:=S812 _ _ h8l
       have S1012:=S11.trans T12
       have hnew:RowAt (upd H11 nr (.tup [V.int (price es i pr x.1+rz.1),.ref g1,.ref g2])) nr (extR (fun i st=>price es i pr st) i j x rz):=⟨g1,g2,[tt]++ts,kqs++ks9,upd_same,by rw [List.map_append];exact S1012 _ _ hg1,(TupsAt.one (S812 _ _ (Z8 _ _ htt7)) hok).app ((Tz.of S812).tups hT8),by rw [List.map_append];exact T12 _ _ hg2,Al.app ((Tz.of S812).pairs (Z8.pairs hq7)) ((Tz.of S812).pairs hP8)⟩
       refine ⟨l0,_,_,rfl,rfl,h12l,less (by rw [List.length_map,List.length_append];omega),gs++[nr],_,rfl,?_,?_,X8.trans ((Sx.of S812).trans Sx.upd)⟩
       ·rw [upd_same,<-List.append_assoc,List.map_append (l₁:=bs++gs)]
        rfl
       ·rw [htq,List.map_append (f:=extR (fun i st=>price es i pr st) i j x)]
        exact (Tz.lst h12l).rows (Al.app ((Tz.of S812).rows hG8) (Al.one hnew))
      ·rintro σ H8 ⟨gs,v9',rfl,h8l,hG8,X8⟩
       rw [List.length_map,hRl7.1,List.take_length] at hG8
       refine ⟨bs++gs,_,_,_,_,_,rfl,X8 _ _ nl (S57 _ _ h5la),h8l,?_,X5.trans ((Sx.of S57).trans X8),fun z=>absurd z hne⟩
       rw [htk,List.flatMap_append,<-List.append_assoc]
       refine Al.app ((Tz.sx X8 h7l).rows ((Tz.of S57).rows hR5)) ?_
       rw [List.flatMap_cons,List.flatMap_nil,List.append_nil,hRW]
       exact hG8
    ·rintro σ H5 ⟨bs,w5,w6,w7,w8,w9,rfl,h5la,h5l,hR5,X5,hE5⟩
     rw [List.length_map,hA.len,List.take_length,<-rows_step hWf hWn hi hj] at hR5
     have Z5:=Tz.sx X5 h4l
     have h5d:=X5 _ _ (Ne.symm nld) h4d
     have XS:∀ b o,b ≠ d->H2 b=some o->H5 b=some o:=fun b o nb eb=>by
      have e4:=S4 _ _ (X3 _ _ nb eb)
      rcases hfr with z | z
      ·exact X5 _ _ (fun y=>by rw [y,z] at eb;cases eb) e4
      ·rw [hE5 (hendas z)]
       exact e4
     refine ⟨ys3,_,_,_,_,_,_,rfl,h5d,fun y hy=>Z5 _ _ (S4 _ _ (hk3 y hy)),by omega,?_,?_,fun b o nb eb=>XS b o nb (X2 _ _ nb eb),fun b o eb=>XS b o (fun z=>by rw [z,hd] at eb;cases eb) (S2 _ _ eb)⟩
     ·intro a' b' ha' hb' h
      by_cases e:a'=i/\b'=j
      ·obtain ⟨rfl,rfl⟩:=e
       exact ⟨l0,bs,hv0,h5l,hR5⟩
      ·have hcne:a' * (cs.length+1)+b' ≠ i * (cs.length+1)+j:=fun z=>by
        have e1:=code_div (n:=cs.length) (i:=a') (j:=b') hb'
        have e2:=code_div (n:=cs.length) (i:=i) (j:=j) hj
        rw [z] at e1
        exact e ⟨e1.1.symm.trans e2.1,e1.2.symm.trans e2.2⟩
       obtain ⟨l,as9,hv,hl,hR⟩:=hDo a' b' ha' hb' (h.imp (fun z=>by omega) id)
       refine ⟨l,as9,(hvo a' b' e).trans hv,XS _ _ (lst_dp hl h2d) hl,Z5.rows ((Tz.of S4).rows ((Tz.sd X3 h2d).rows hR))⟩
     ·intro a' b' ha' hb' h hn
      rw [hvo a' b' (fun z=>by rw [z.1,z.2] at h;omega)]
      exact hNo a' b' ha' hb' (by omega) hn
  ·rintro σ H2 ⟨ys,v4,v5,v6,v7,v8,v9,rfl,h2d,hkk,hyl,hDo,hNo,X2,S2⟩
   rw [lks] at hDo
   obtain ⟨l,as,hv,hl,hR⟩:=hDo 0 0 (Nat.zero_le _) (Nat.zero_le _) (.inl (by omega))
   refine ⟨_,rfl,few (by show 2<=_;omega),fun b4 hb4=>?_⟩
   have T4:=same_upd (o:=.tup [V.int 0,.int 0]) hb4
   exact ⟨d,ys,kp 0 0,b4,_,rfl,rfl,T4 _ _ h2d,(fun y hy=>T4 _ _ (hkk y hy)),upd_same,hv,q _ l as (S2.trans T4) (T4 _ _ hl) ((Tz.of T4).rows hR)⟩
theorem Al.tail {α:Type} {R:Addr->α->Prop} {a:Addr} {x:α} {as:List Addr} {xs:List α} (h:Al R (a :: as) (x :: xs)):R a x/\Al R as xs:=
 ⟨h.2 0 a x rfl rfl,Nat.succ.inj h.1,fun i b y e1 e2=>h.2 (i+1) b y (by simpa using e1) (by simpa using e2)⟩
theorem Al.filt {α:Type} {R:Addr->α->Prop} (f:α->Bool):∀ {as:List Addr} {xs:List α},Al R as xs->Al R (((as.zip xs).filter fun x=>f x.2).map (·.1)) (xs.filter f)
 | [],[],_=>Al.nil
 | [],_ :: _,h=>nomatch h.1
 | _ :: _,[],h=>nomatch h.1
 | a :: as,x :: xs,h=>by
  obtain ⟨h1,h2⟩:=h.tail
  rw [List.zip_cons_cons]
  cases hf:f x with
  | true=>
   rw [List.filter_cons_of_pos (p:=fun x:Addr × α=>f x.2) hf,List.filter_cons_of_pos hf,List.map_cons]
   exact Al.app (Al.one h1) (Al.filt f h2)
  | false=>
   rw [List.filter_cons_of_neg (p:=fun x:Addr × α=>f x.2) (by show ¬ f x=true;rw [hf];exact Bool.false_ne_true),List.filter_cons_of_neg (by rw [hf];exact Bool.false_ne_true)]
   exact Al.filt f h2
theorem Al.mem {α:Type} {R:Addr->α->Prop} {as:List Addr} {xs:List α} (h:Al R as xs) {x:Addr × α} (hx:x ∈ as.zip xs):R x.1 x.2/\x.1 ∈ as/\x.2 ∈ xs:=by
 obtain ⟨k,hk⟩:=List.mem_iff_getElem?.mp hx
 obtain ⟨z1,z2⟩:=List.getElem?_zip_eq_some.mp hk
 exact ⟨h.2 k _ _ z1 z2,List.mem_of_getElem? z1,List.mem_of_getElem? z2⟩
theorem Al.zipV {α:Type} {R:Addr->α->Prop} {as:List Addr} {xs:List α} (h:Al R as xs):(as.zip xs).map (fun x=>V.ref x.1)=as.map V.ref:=zip1 V.ref h.1
theorem Al.lenF {α:Type} {R:Addr->α->Prop} {as:List Addr} {xs:List α} (f:α->Bool) (h:Al R as xs):((as.zip xs).filter fun x=>f x.2).length=(xs.filter f).length:=by
 have:=(Al.filt f h).1
 rw [List.length_map] at this
 exact this
theorem eqP (i j a b:Nat):eqL [V.int ((i:Nat):Int),.int ((j:Nat):Int)] [V.int ((a:Nat):Int),.int ((b:Nat):Int)]=decide (i=a/\j=b):=by
 show (decide (((i:Nat):Int)=((a:Nat):Int)) && (decide (((j:Nat):Int)=((b:Nat):Int)) && true))=_
 rw [Bool.and_true,Bool.eq_iff_iff,Bool.and_eq_true,decide_eq_true_iff,decide_eq_true_iff,decide_eq_true_iff]
 omega
noncomputable def pB (H:Hp) (p:Nat × Nat) (a:Addr):Bool:=@decide (H a=some (.tup [.int ((p.1:Nat):Int),.int ((p.2:Nat):Int)])) (Classical.propDecidable _)
theorem pB_iff {H:Hp} {p:Nat × Nat} {a:Addr}:pB H p a=true ↔ H a=some (.tup [.int ((p.1:Nat):Int),.int ((p.2:Nat):Int)]):=by
 unfold pB
 rw [@decide_eq_true_iff _ (Classical.propDecidable _)]
theorem pair_eq {p q:Nat × Nat} (h:(some (HO.tup [.int ((p.1:Nat):Int),.int ((p.2:Nat):Int)]):Option HO)=some (.tup [.int ((q.1:Nat):Int),.int ((q.2:Nat):Int)])):p=q:=by
 injection h with h
 injection h with h
 injection h with h1 h
 injection h with h2 _
 injection h1 with h1
 injection h2 with h2
 exact Prod.ext (by omega) (by omega)
theorem pair_in {H:Hp} {x:Addr} {p:Nat × Nat} {ks:List Addr} {ps:List (Nat × Nat)} (hx:H x=some (.tup [.int ((p.1:Nat):Int),.int ((p.2:Nat):Int)])) (h:PairsAt H ks ps):(∀ a ∈ ks,EqQ K H 1 (.ref a) (.ref x) (pB H p a))/\ks.any (pB H p)=decide (p ∈ ps):=by
 constructor
 ·intro a ha
  obtain ⟨k,hk⟩:=List.mem_iff_getElem?.mp ha
  have hl:k < ps.length:=by rw [<-h.1];exact (List.getElem?_eq_some_iff.mp hk).1
  have e:=h.2 k a ps[k] hk (List.getElem?_eq_getElem hl)
  have:=EqS.flats (K:=K) (H:=H) (p:=a) (r:=x) (.inr ⟨SqT.of e,SqT.of hx⟩) rfl rfl
  rw [eqP] at this
  have e2:pB H p a=decide (ps[k].1=p.1/\ps[k].2=p.2):=by
   rw [Bool.eq_iff_iff,pB_iff,decide_eq_true_iff,e]
   constructor
   ·intro z
    rw [pair_eq z]
    exact ⟨rfl,rfl⟩
   ·intro z
    rw [z.1,z.2]
  rw [e2]
  exact this.q
 ·rw [Bool.eq_iff_iff,List.any_eq_true,decide_eq_true_iff]
  constructor
  ·rintro ⟨a,ha,hb⟩
   obtain ⟨k,hk⟩:=List.mem_iff_getElem?.mp ha
   have hl:k < ps.length:=by rw [<-h.1];exact (List.getElem?_eq_some_iff.mp hk).1
   have e:=h.2 k a ps[k] hk (List.getElem?_eq_getElem hl)
   rw [pB_iff,e] at hb
   rw [<-pair_eq hb]
   exact List.getElem_mem hl
  ·intro hp
   obtain ⟨k,hk⟩:=List.mem_iff_getElem?.mp hp
   have hl:k < ks.length:=by rw [h.1];exact (List.getElem?_eq_some_iff.mp hk).1
   exact ⟨ks[k],List.getElem_mem hl,pB_iff.mpr (h.2 k _ p (List.getElem?_eq_getElem hl) hk)⟩
def spInAll (K:PySem.W.Frag):Sp:=fun vs H Q _=>∃ (l:Addr) (as:List Addr) (g:RowZ) (gs:List RowZ),vs=[.ref l]/\SqL K H l (as.map V.ref)/\RowsAt H as (g :: gs)/\as.length<=262144/\g.2.2.length<=6 ∧
 ∀ (H':Hp) (t:Addr) (ks:List Addr),Same H H'->H' t=some (.tup (ks.map V.ref))->PairsAt H' ks (g.2.2.filter fun q=>decide (∀ r ∈ g :: gs,q ∈ r.2.2))->Q (.ref t) H'
theorem scInAll:FnScope ["rows"] ["rows"] (defScope sInAll):=⟨rfl,rfl,rfl,by decide +kernel,rfl,by decide +kernel,by decide +kernel⟩
theorem nd_paro:(["pair","rows"]:List Str).Nodup:=by decide +kernel
theorem nd_ropa:(["row","pair"]:List Str).Nodup:=by decide +kernel
theorem ok_inall {f:Addr} {fd:FuncData} (F:Fun K "_law_in_all" "_law_in_all" sInAll f fd) (mlen:mg "len" = none) (mtup:mg "tuple" = none):FnOk P w K mg base CX0 1 f fd ["rows"] (spInAll K):=by
 refine F.ok scInAll (fun vs H Q E h=>?_) (fun cdv A outer s H vs Q E hr h=>?_)
 ·obtain ⟨l,as,g,gs,rfl,_⟩:=h
  rfl
 ·obtain ⟨l,as,g,gs,rfl,hl,hR,has,hgl,q⟩:=h
  refine ⟨_,pss_one (ps_ret (pe_callTy call_tuple_of (by rfl) mtup boot_tuple (pa_cons (pe_compC (Nc:=["pair","rows"]) (mp:=[none,some 0]) (x0 := "pair") rfl (CompOkC.of (fun _ _=>rfl) (fun _=>rfl) (by rfl)) (pi_tup (pe_ix ix_tup (pe_ix ix_list (pv 0) pe_int (fun _ _=>rfl)) pe_int (fun _ _=>rfl))) (fun c0 cl C s H fp=>⟨pg_name (i:=0) nd_paro rfl (Or.inr rfl) (Or.inl (beq_self_eq_true _)),pts_one (pt_cmpR op_eq (pe_callB (call_len_seqK (K:=K) rfl) (by rfl) mlen PySem.boot_len (pa_cons (pe_comp (Nc:=["row","pair"]) (mp:=[none,some 0]) rfl (CompOk.of (by rfl)) (pi_listK (K:=K) rfl (pv 1)) (fun cl C s H fp=>⟨pg_name (i:=0) nd_ropa rfl (Or.inl rfl),pts_one (pt_cmpR (op_inT (K:=K) rfl hr.units) (pv 1) (pe_ix (ix_tupK (K:=K) rfl) (pv 0) pe_int (fun _ _=>rfl)) (by with_unfolding_all rfl)),(pv 0)⟩)) pa_nil)) (pe_callB (call_len_seqK (K:=K) rfl) (by rfl) mlen PySem.boot_len (pa_cons (pv 1) pa_nil)) (nomark _)),(pv 0)⟩)) pa_nil))),?_⟩
  obtain ⟨a0,as',rfl⟩:∃ a0 as',as=a0 :: as':=by
   cases as with
   | nil=>exact nomatch hR.1
   | cons a b=>exact ⟨a,b,rfl⟩
  obtain ⟨t0,k0,ts,ks,h1,h2,h3,h4,h5⟩:=hR.2 0 a0 g rfl rfl
  have hkz:H k0=some (.tup ((ks.zip g.2.2).map fun x=>V.ref x.1)):=by rw [Al.zipV h5];exact h4
  refine ⟨_,rfl,l,_,_,_,rfl,rfl,hl,atI_nat (j:=0) rfl,a0,_,_,_,rfl,rfl,SqT.of h1,atI_nat (j:=2) rfl,k0,rfl,⟨_,SqT.of hkz⟩,comp_growF (as:=ks.zip g.2.2) (v:=fun x=>V.ref x.1) (fun x=>decide (∀ r ∈ g :: gs,x.2 ∈ r.2.2)) (fun H' S=>src_tup (SqT.of (S _ _ hkz))) (by rw [List.length_zip];exact few (by omega)) (fun x hx H' S kc hkc=>?_) (fun x hx H' kc hkc=>⟨_,rfl,hkc⟩) fun H' D S hD=>?_⟩
  ·have hR':=(Tz.of S).rows hR
   have hl':=S.seq hl
   have hlz:SqL K H' l (((a0 :: as').zip (g :: gs)).map fun y=>V.ref y.1):=by rw [Al.zipV hR'];exact hl'
   have hxp:=S _ _ (Al.mem h5 hx).1
   refine ⟨_,rfl,l,rfl,⟨_,hlz⟩,comp_pure (as:=(a0 :: as').zip (g :: gs)) (v:=fun y=>V.ref y.1) (fun y=>decide (x.2 ∈ y.2.2.2)) (fun y=>V.ref y.1) (src_list hlz) (by rw [List.length_zip];exact lesser (by omega)) (fun y hy kd hkd=>?_) (fun y hy _ kd hkd=>⟨_,rfl,hkd⟩) fun D hD=>?_⟩
   ·obtain ⟨t1,k1,ts1,ks1,g1,g2,g3,g4,g5⟩:=(Al.mem hR' hy).1
    obtain ⟨i1,i2⟩:=pair_in (K:=K) hxp g5
    refine ⟨_,rfl,_,rfl,y.1,_,_,_,rfl,rfl,SqT.of g1,atI_nat (j:=2) rfl,k1,ks1,pB H' x.2,rfl,SqT.of g4,i1,_,rfl,?_⟩
    rw [i2]
    exact hkd
   ·have T2:=same_upd (o:=.lst ((((a0 :: as').zip (g :: gs)).filter fun y=>decide (x.2 ∈ y.2.2.2)).map fun y=>V.ref y.1)) hD
    refine ⟨D,_,rfl,.inl (SqL.of upd_same),_,rfl,l,_,rfl,.inl (T2.seq hl'),rfl,_,rfl,?_⟩
    have ef:decide (V.int (((((a0 :: as').zip (g :: gs)).filter fun y=>decide (x.2 ∈ y.2.2.2)).map fun y=>V.ref y.1).length:Int)=V.int ((((a0 :: as').map V.ref).length:Nat):Int))=decide (∀ r ∈ g :: gs,x.2 ∈ r.2.2):=by
     rw [List.length_map,List.length_map,Al.lenF (fun r:RowZ=>decide (x.2 ∈ r.2.2)) hR',hR'.1,decide_eq_decide]
     constructor
     ·intro z r hr'
      injection z with z
      have z2:((g :: gs).filter fun r:RowZ=>decide (x.2 ∈ r.2.2)).length=(g :: gs).length:=by omega
      exact of_decide_eq_true (List.length_filter_eq_length_iff.mp z2 r hr')
     ·intro z
      rw [List.length_filter_eq_length_iff.mpr fun r hr'=>decide_eq_true (z r hr')]
    rw [ef]
    exact hkc _ T2
  ·have T3:=same_upd (o:=.lst (((ks.zip g.2.2).filter fun x=>decide (∀ r ∈ g :: gs,x.2 ∈ r.2.2)).map fun x=>V.ref x.1)) hD
   refine ⟨D,_,rfl,.inl ⟨SqL.of upd_same,fun t ht=>?_⟩⟩
   have T4:=same_upd (o:=.tup (((ks.zip g.2.2).filter fun x=>decide (∀ r ∈ g :: gs,x.2 ∈ r.2.2)).map fun x=>V.ref x.1)) ht
   have S4:=(S.trans T3).trans T4
   refine q _ t (((ks.zip g.2.2).filter fun x:Addr × (Nat × Nat)=>decide (∀ r ∈ g :: gs,x.2 ∈ r.2.2)).map (fun x:Addr × (Nat × Nat)=>x.1)) S4 ?_ ((Tz.of S4).pairs (Al.filt (fun p:Nat × Nat=>decide (∀ r ∈ g :: gs,p ∈ r.2.2)) h5))
   rw [upd_same,List.map_map]
   rfl
section
variable {es cs:List Str} {pr:List Int} {R:Nat->Nat->Int} {U T:Tb}
theorem sure_av {i j:Nat} (hR:Rest (fun i st=>price es i pr st) es.length cs.length (ways es cs) R) (hT:∀ a b,a<=es.length->b<=cs.length->CntAt es cs pr R T a b) (hF:FlowAt es.length cs.length (cheap es cs pr R) ((es.length+1) * (cs.length+1)) U) :
  sureP es cs pr R U T i j ↔ avoid es.length cs.length (cheap es cs pr R) i j 0 0=0:=by
 by_cases h:(Sk.keep,i+1,j+1) ∈ cheap es cs pr R i j
 ·have ho:=over hR hT hF h
  constructor
  ·rintro ⟨_,h2⟩
   omega
  ·intro z
   exact ⟨h,by omega⟩
 ·have hno:∀ x ∈ cheap es cs pr R i j,isK x.1=false:=fun x hx=>by
   cases hk:isK x.1 with
   | false=>rfl
   | true=>
    rw [keep_is hx hk] at hx
    exact absurd hx h
  have e:=avoid_cnt (i:=i) (j:=j) cheap_fwd cheap_none (cnt_of hT) _ 0 0 (Nat.zero_le _) (Nat.zero_le _) (Nat.le_refl _) (.inr hno)
  have hp:=(cnt_of hT).pos cheap_fwd _ 0 0 (Nat.zero_le _) (Nat.zero_le _) (Nat.le_refl _)
  exact ⟨fun z=>absurd z.1 h,fun z=>by omega⟩
theorem keep_way:∀ a b,a<=es.length->b<=cs.length->∀ x ∈ ways es cs a b,isK x.1=true->x.2=(a+1,b+1):=fun a b _ _ x hx hk=>by
 have hm:x ∈ (ways es cs a b).filter (fun x=>isK x.1):=List.mem_filter.mpr ⟨hx,hk⟩
 rw [keep_ways] at hm
 split at hm
 ·rw [List.mem_singleton.mp hm]
 ·cases hm
theorem all_math {g:RowZ} {gs:List RowZ} (hR:Rest (fun i st=>price es i pr st) es.length cs.length (ways es cs) R) (hT:∀ a b,a<=es.length->b<=cs.length->CntAt es cs pr R T a b) (hF:FlowAt es.length cs.length (cheap es cs pr R) ((es.length+1) * (cs.length+1)) U)
  (hg:goodO (fun i st=>price es i pr st) es.length cs.length (ways es cs) R 0 0=g :: gs) :
  (g.2.2.filter fun q=>decide (∀ r ∈ g :: gs,q ∈ r.2.2)).map (codeP cs.length)=(List.range ((es.length+1) * (cs.length+1))).filter (sB es cs pr R U T):=by
 have h:=all_codes (pr:=fun i st=>price es i pr st) (ways_fwd es cs) (ways_none es cs) hR keep_way hg (p:=sB es cs pr R U T) (fun i j hi hj=>by
  rw [sB_iff,show codeP cs.length (i,j)=i * (cs.length+1)+j from rfl,(code_div (Nat.le_of_lt hj)).1,(code_div (Nat.le_of_lt hj)).2]
  exact sure_av hR hT hF) (fun c hc hs=>by
  have hs:=sB_iff.mp hs
  obtain ⟨g1,g2,_⟩:=keep_cheap hs.1
  exact ⟨g1,g2⟩)
 rw [hg] at h
 exact h
theorem first_rise {g:RowZ} {gs:List RowZ} (hg:goodO (fun i st=>price es i pr st) es.length cs.length (ways es cs) R 0 0=g :: gs):(g.2.2.Pairwise fun p q=>codeP cs.length p < codeP cs.length q)/\∀ p ∈ g.2.2,p.1 < es.length/\p.2 < cs.length:=by
 have hgm:g ∈ goodO (fun i st=>price es i pr st) es.length cs.length (ways es cs) R 0 0:=by rw [hg];exact List.mem_cons_self
 obtain ⟨k1,k2⟩:=kept_rise (pr:=fun i st=>price es i pr st) (ways_fwd es cs) (ways_none es cs) keep_way _ 0 0 (Nat.zero_le _) (Nat.zero_le _) (Nat.le_refl _) g (List.mem_filter.mp hgm).1
 exact ⟨k1,fun p hp=>(k2 p hp).2⟩
theorem least_is {m0:Int} (hR:Rest (fun i st=>price es i pr st) es.length cs.length (ways es cs) R) (hm:m0 ∈ (rowsO (fun i st=>price es i pr st) es.length cs.length (ways es cs) 0 0).map (·.1)) (hle:∀ n ∈ (rowsO (fun i st=>price es i pr st) es.length cs.length (ways es cs) 0 0).map (·.1),m0<=n):m0=R 0 0:=by
 obtain ⟨r,hr,rfl⟩:=List.mem_map.mp hm
 have h1:=rows_le (ways_fwd es cs) (ways_none es cs) hR _ 0 0 (Nat.zero_le _) (Nat.zero_le _) (Nat.le_refl _) r hr
 obtain ⟨r2,hr2⟩:=List.exists_mem_of_ne_nil _ (good_some (ways_fwd es cs) (ways_none es cs) hR _ 0 0 (Nat.zero_le _) (Nat.zero_le _) (Nat.le_refl _))
 obtain ⟨h2,h3⟩:=List.mem_filter.mp hr2
 have h4:=hle r2.1 (List.mem_map.mpr ⟨r2,h2,rfl⟩)
 have h3:=of_decide_eq_true h3
 omega
theorem toldW:∀ {sts:List Sk} {i j:Nat},Told es cs pr R i j sts->ToldW (fun i st=>price es i pr st) es.length cs.length (ways es cs) R i j sts
 | [],i,j,h=>by
  obtain ⟨rfl,rfl⟩:=h
  exact .nil
 | st :: r,i,j,h=>by
  obtain ⟨x,hx,rfl,ht⟩:=h
  exact .cons hx (toldW ht)
end
theorem rows_any {es cs:List Str} {pr:Nat->Sk->Int}:∀ (k a b:Nat),a<=es.length->b<=cs.length->(es.length - a)+(cs.length - b)<=k->rowsO pr es.length cs.length (ways es cs) a b ≠ []:=by
 intro k
 induction k with
 | zero=>
  intro a b ha hb hk
  have e1:a=es.length:=by omega
  have e2:b=cs.length:=by omega
  subst e1 e2
  rw [rows_end (ways_fwd es cs) (ways_none es cs)]
  exact fun z=>nomatch z
 | succ k ih=>
  intro a b ha hb hk
  by_cases hn:a=es.length/\b=cs.length
  ·rw [hn.1,hn.2,rows_end (ways_fwd es cs) (ways_none es cs)]
   exact fun z=>nomatch z
  ·rw [rows_mid (ways_fwd es cs) (ways_none es cs) ha hb hn]
   have hw:=ways_some es cs ha hb hn
   obtain ⟨x,r,e⟩:∃ x r,ways es cs a b=x :: r:=by
    cases e:ways es cs a b with
    | nil=>exact absurd e hw
    | cons x r=>exact ⟨x,r,rfl⟩
   obtain ⟨h1,h2,h3,h4,h5⟩:=ways_fwd es cs a b ha hb x (by rw [e];exact List.mem_cons_self)
   rw [e,List.flatMap_cons]
   intro z
   exact ih x.2.1 x.2.2 h1 h2 (by omega) (List.map_eq_nil_iff.mp (List.append_eq_nil_iff.mp z).1)
def spLaw (K:PySem.W.Frag):Sp:=fun vs H Q _=>∃ (a:Addr) (ns:List Int),vs=[.ref a]/\SqL K H a (ns.map V.int)/\ns.length<=63/\(∀ m ∈ ns,Builtin.Int.intBits m<=1048576)/\∀ H',Q (.bl true) H'
theorem scLaw:FnScope ["script","prices","elder","copy","rows","least","good","found"] ["script"] (defScope sLaw):=⟨rfl,rfl,rfl,by decide +kernel,rfl,by decide +kernel,by decide +kernel⟩
theorem nd_row1:(["row"]:List Str).Nodup:=by decide +kernel
theorem nd_role:(["row","least"]:List Str).Nodup:=by decide +kernel
theorem dec_int (x y:Int):decide (V.int x=V.int y)=decide (x=y):=decide_eq_decide.mpr ⟨fun z=>V.int.inj z,fun z=>congrArg V.int z⟩
theorem sameV_pairs {H:Hp} {t u:Addr} {ks:List Addr} {ps:List (Nat × Nat)} {L:List Nat} {adr:Nat->Addr} {n:Nat} (ht:H t=some (.tup ((L.map adr).map V.ref))) (hu:H u=some (.tup (ks.map V.ref))) (hk:PairsAt H ks ps) (hL:ps.map (codeP n)=L) (hn:∀ p ∈ ps,p.2 < n) (ha:∀ c ∈ L,H (adr c)=some (.tup ((codeK n c).map kV))) (hz:ps.length<=100):SameV H 2 (.ref t) (.ref u):=by
 refine sameV_seq ht hu (by rw [List.length_map,List.length_map,List.length_map,<-hL,List.length_map,hk.1]) (by rw [List.length_map,hk.1];omega) fun i x y hx hy=>?_
 obtain ⟨a,ha',rfl⟩:=ref_at hx
 obtain ⟨b,hb,rfl⟩:=ref_at hy
 rw [List.getElem?_map] at ha'
 obtain ⟨c,hc,rfl⟩:=Option.map_eq_some_iff.mp ha'
 have hi:i < ps.length:=by rw [<-hk.1];exact (List.getElem?_eq_some_iff.mp hb).1
 have e:=List.getElem?_eq_getElem hi
 have h1:=hk.2 i b _ hb e
 have hcm:=ha c (List.mem_of_getElem? hc)
 rw [<-hL,List.getElem?_map,e] at hc
 have hc:codeP n ps[i]=c:=Option.some.inj hc
 have h2:=hn _ (List.getElem_mem hi)
 have hv:(codeK n c).map kV=[V.int ((ps[i].1:Nat):Int),.int ((ps[i].2:Nat):Int)]:=by
  rw [<-hc,show codeP n ps[i]=ps[i].1 * (n+1)+ps[i].2 from rfl,codeK_at (Nat.le_of_lt h2)]
  rfl
 rw [hv] at hcm
 refine sameV_seq hcm h1 rfl (by show 2<=_;omega) fun l u v hu hv=>?_
 rw [hu] at hv
 cases hv
 match l,hu with
 | 0,hu=>cases hu;exact .inr ⟨_,rfl,rfl⟩
 | 1,hu=>cases hu;exact .inr ⟨_,rfl,rfl⟩
 | l+2,hu=>simp at hu
theorem ok_lawG {f gC gPr gPs gAR gLs gSm gCM gSu gIA:Addr} {fd dC dPr dPs dAR dLs dSm dCM dSu dIA:FuncData} (F:Fun K "law" "law" sLaw f fd)
  (DC:Dfn K mg "_law_cell_at" sCell gC dC ["script","k"]) (GC:FnOk P w K mg base CX0 5 gC dC ["script","k"] (spCell K)) (DPr:Dfn K mg "_law_prices" sPrices gPr dPr ["cell"]) (GPr:FnOk P w K mg base CX0 5 gPr dPr ["cell"] spPrices) (DPs:Dfn K mg "_law_pairs" sPairs gPs dPs ["script","many"]) (GPs:FnOk P w K mg base CX0 5 gPs dPs ["script","many"] (spPairs K))
  (DAR:Dfn K mg "_law_all_rows" sARows gAR dAR ["elder","copy","prices"]) (GAR:FnOk P w K mg base CX0 5 gAR dAR ["elder","copy","prices"] (spARows K)) (DLs:Dfn K mg "least_slips" sLs gLs dLs ["elder","copy","prices"]) (GLs:FnOk P w K mg base CX0 5 gLs dLs ["elder","copy","prices"] (spLs K)) (DSm:Dfn K mg "_law_same" sSame gSm dSm ["found","due"]) (GSm:FnOk P w K mg base CX0 5 gSm dSm ["found","due"] (spSame 3))
  (DCM:Dfn K mg "cheapest_many" sCM gCM dCM ["elder","copy","prices"]) (GCM:FnOk P w K mg base CX0 5 gCM dCM ["elder","copy","prices"] (spCM K)) (DSu:Dfn K mg "sure_pairs" sSure gSu dSu ["elder","copy","prices"]) (GSu:FnOk P w K mg base CX0 5 gSu dSu ["elder","copy","prices"] (spSure K)) (DIA:Dfn K mg "_law_in_all" sInAll gIA dIA ["rows"]) (GIA:FnOk P w K mg base CX0 5 gIA dIA ["rows"] (spInAll K))
  (mlen:mg "len" = none) (mtup:mg "tuple" = none) (mmin:mg "min" = none) (msorted:mg "sorted" = none):FnOk P w K mg base CX0 6 f fd ["script"] (spLaw K):=by
 refine F.ok scLaw (fun vs H Q E h=>?_) (fun cdv A outer s H vs Q E hr h=>?_)
 ·obtain ⟨a,ns,rfl,_⟩:=h
  rfl
 ·obtain ⟨a,ns,rfl,hS,hn,hb,q⟩:=h
  refine ⟨_,pss_cons (ps_set (i:=1) scLaw.nd rfl (Or.inl rfl) (pe_call GPr hr (by rfl) DPr.at_ DPr.fn.kp DPr.bn .nil pass0 (pa_cons (pe_call GC hr (by rfl) DC.at_ DC.fn.kp DC.bn .nil pass0 (pa_cons (pv 0) (pa_cons pe_int pa_nil))) pa_nil)))
   (pss_cons (ps_for PassesOwn.never rfl (pi_list (pe_call GPs hr (by rfl) DPs.at_ DPs.fn.kp DPs.bn .nil pass0 (pa_cons (pv 0) (pa_cons pe_int pa_nil)))) (pg_tup (n:=2) rfl (pgs_cons (pg_name (i:=2) scLaw.nd rfl (Or.inl rfl)) (pgs_cons (pg_name (i:=3) scLaw.nd rfl (Or.inl rfl)) pgs_nil)))
   (pss_cons (ps_set (i:=2) scLaw.nd rfl (Or.inl rfl) (pe_slice sl_tupA (pv 2) po_none (po_some pe_int)))
   (pss_cons (ps_set (i:=3) scLaw.nd rfl (Or.inl rfl) (pe_slice sl_tupA (pv 3) po_none (po_some pe_int)))
   (pss_cons (ps_set (i:=4) scLaw.nd rfl (Or.inl rfl) (pe_call GAR hr (by rfl) DAR.at_ DAR.fn.kp DAR.bn .nil pass0 (pa_cons (pv 2) (pa_cons (pv 3) (pa_cons (pv 1) pa_nil)))))
   (pss_cons (ps_set (i:=5) scLaw.nd rfl (Or.inr rfl) (pe_callB (call_minL rfl) (by rfl) mmin boot_min (pa_cons (pe_comp (Nc:=["row"]) (mp:=[none]) rfl (CompOk.of (by rfl)) (pi_list (pv 4)) (fun cl C s H fp=>⟨pg_name (i:=0) nd_row1 rfl (Or.inl rfl),pts_nil,(pe_ix (ix_tupK (K:=K) rfl) (pv 0) pe_int (fun _ _=>rfl))⟩)) pa_nil)))
   (pss_cons (ps_setC (i:=6) (Nc:=["row","least"]) (mp:=[none,some 5]) rfl scLaw.nd rfl rfl (CompOk.of (by rfl)) (pi_list (pv 4)) (fun cl C s H fp=>⟨pg_name (i:=0) nd_role rfl (Or.inl rfl),pts_one (pt_cmpR op_eq (pe_ix (ix_tupK (K:=K) rfl) (pv 0) pe_int (fun _ _=>rfl)) (pv 1) (nomark _)),(pv 0)⟩))
   (pss_cons (ps_set (i:=7) scLaw.nd rfl (Or.inl rfl) (pe_call GLs hr (by rfl) DLs.at_ DLs.fn.kp DLs.bn .nil pass0 (pa_cons (pv 2) (pa_cons (pv 3) (pa_cons (pv 1) pa_nil)))))
   (pss_cons (ps_if (pt_not (pt_val (pe_call GSm hr (by rfl) DSm.at_ DSm.fn.kp DSm.bn .nil pass0 (pa_cons (pe_slice sl_tupA (pv 7) po_none (po_some pe_int)) (pa_cons (pe_tup (pa_cons (pv 5) (pa_cons (pe_ix ix_tup (pe_ix ix_list (pv 6) pe_int (fun _ _=>rfl)) pe_int (fun _ _=>rfl)) pa_nil))) pa_nil))))) (pss_one (ps_ret pe_bl)) pss_nil)
   (pss_cons (ps_if (pt_not (pt_val (pe_call GSm hr (by rfl) DSm.at_ DSm.fn.kp DSm.bn .nil pass0 (pa_cons (pe_call GCM hr (by rfl) DCM.at_ DCM.fn.kp DCM.bn .nil pass0 (pa_cons (pv 2) (pa_cons (pv 3) (pa_cons (pv 1) pa_nil)))) (pa_cons (pe_callB call_len_seq (by rfl) mlen PySem.boot_len (pa_cons (pv 6) pa_nil)) pa_nil))))) (pss_one (ps_ret pe_bl)) pss_nil)
   (pss_one (ps_if (pt_not (pt_val (pe_call GSm hr (by rfl) DSm.at_ DSm.fn.kp DSm.bn .nil pass0 (pa_cons (pe_call GSu hr (by rfl) DSu.at_ DSu.fn.kp DSu.bn .nil pass0 (pa_cons (pv 2) (pa_cons (pv 3) (pa_cons (pv 1) pa_nil)))) (pa_cons (pe_callTy call_tuple_of (by rfl) mtup boot_tuple (pa_cons (pe_callB call_sortP (by rfl) msorted boot_sorted (pa_cons (pe_call GIA hr (by rfl) DIA.at_ DIA.fn.kp DIA.bn .nil pass0 (pa_cons (pv 6) pa_nil)) pa_nil)) pa_nil)) pa_nil))))) (pss_one (ps_ret pe_bl)) pss_nil)))))))))))
   (pss_one (ps_ret pe_bl))),?_⟩
  refine ⟨_,rfl,a,ns,1,rfl,hS,by decide,_,rfl,bits_cell hb 1,fun H1 r0 pr S1 hpr h7 _=>?_⟩
  refine ⟨_,rfl,a,ns,3,rfl,S1.seq hS,hb,hn,.inl rfl,fun H2 lp xs S2 hlp hP hxl=>?_⟩
  refine ⟨lp,rfl,⟨_,SqL.of hlp⟩,for_list (K:=K) (a:=lp) (xs:=xs.map V.ref) (fun i σ H3=>∃ v2 v3 v4 v5 v6 v7:Option V,σ=[some (.ref a),some (.ref r0),v2,v3,v4,v5,v6,v7]/\Same H2 H3) ⟨none,none,none,none,none,none,rfl,Same.refl _⟩ (fun i σ H3 _ ⟨_,_,_,_,_,_,_,S⟩=>SqL.of (S _ _ hlp)) ?_ ?_⟩
  ·rintro k y σ H3 hk ⟨v2,v3,v4,v5,v6,v7,rfl,S3⟩
   obtain ⟨x,hxk,rfl⟩:=ref_at hk
   obtain ⟨e0,c0,es0,cs0,hx,he0,hc0,ge0,gc0,_,_⟩:=(hP x (List.mem_of_getElem? hxk)).mono S3
   have hpr3:=SqT.of (K:=K) ((S2.trans S3) _ _ hpr)
   refine ⟨x,_,rfl,SqT.of hx,rfl,_,_,rfl,_,_,rfl,rfl,?_⟩
   refine ⟨_,rfl,_,rfl,cutTup he0 fun e H4 S4 he4=>?_⟩
   rw [show (3:Int)=((3:Nat):Int) from rfl,cutTake V.str es0 3] at he4
   refine ⟨_,rfl,_,rfl,cutTup (sameT S4 hc0) fun c H5 S5 hc5=>?_⟩
   rw [show (3:Int)=((3:Nat):Int) from rfl,cutTake V.str cs0 3] at hc5
   have he5:=sameT S5 he4
   have hpr5:=sameT (S4.trans S5) hpr3
   have ge:∀ z ∈ es0.take 3,Good z:=fun z hz=>ge0 z (List.mem_of_mem_take hz)
   have gc:∀ z ∈ cs0.take 3,Good z:=fun z hz=>gc0 z (List.mem_of_mem_take hz)
   have le:(es0.take 3).length<=3:=by rw [List.length_take];omega
   have lc:(cs0.take 3).length<=3:=by rw [List.length_take];omega
   have S35:=S3.trans (S4.trans S5)
   generalize es0.take 3=es at he5 ge le
   generalize cs0.take 3=cs at hc5 gc lc
   refine ⟨_,rfl,_,rfl,_,rfl,e,c,r0,es,cs,pr,rfl,he5,hc5,hpr5,ge,gc,le,lc,h7,fun H6 lr as S6 hlr hRo=>?_⟩
   have hrl:=rows_len (pr:=pr) le lc (Nat.zero_le _) (Nat.zero_le _)
   have hne0:=rows_any (es:=es) (cs:=cs) (pr:=fun i st=>price es i pr st) _ 0 0 (Nat.zero_le _) (Nat.zero_le _) (Nat.le_refl _)
   have hsh:=rows_short (pr:=fun i st=>price es i pr st) (ways_fwd es cs) (ways_none es cs) 6 0 0 (Nat.zero_le _) (Nat.zero_le _) (by omega)
   have hLI:∀ R m0,Rest (fun i st=>price es i pr st) es.length cs.length (ways es cs) R->m0 ∈ (rowsO (fun i st=>price es i pr st) es.length cs.length (ways es cs) 0 0).map (·.1)->(∀ n ∈ (rowsO (fun i st=>price es i pr st) es.length cs.length (ways es cs) 0 0).map (·.1),m0<=n)->m0=R 0 0:=fun R m0 h1 h2 h3=>least_is h1 h2 h3
   have hGO:∀ R,goodO (fun i st=>price es i pr st) es.length cs.length (ways es cs) R 0 0=(rowsO (fun i st=>price es i pr st) es.length cs.length (ways es cs) 0 0).filter fun r=>decide (r.1=R 0 0):=fun R=>rfl
   generalize rowsO (fun i st=>price es i pr st) es.length cs.length (ways es cs) 0 0=RW at hRo hrl hne0 hsh hLI hGO
   have hlz:H6 lr=some (.lst ((as.zip RW).map fun x=>V.ref x.1)):=by rw [Al.zipV hRo];exact hlr
   have hzl:(as.zip RW).length<=sizeLine:=by rw [List.length_zip];exact lesser (by omega)
   refine ⟨_,rfl,lr,rfl,⟨_,SqL.of hlz⟩,comp_map (as:=as.zip RW) (v:=fun x=>V.ref x.1) (fun x=>.int x.2.1) (src_list (SqL.of hlz)) hzl (fun x hx kc hkc=>?_) fun D hD=>?_⟩
   ·obtain ⟨t1,k1,ts1,ks1,g1,_⟩:=(Al.mem hRo hx).1
    exact ⟨_,rfl,x.1,_,_,_,rfl,rfl,SqT.of g1,atI_nat (j:=0) rfl,hkc⟩
   have T7:=same_upd (o:=.lst ((as.zip RW).map fun x=>V.int x.2.1)) hD
   have h7D:upd H6 D (.lst ((as.zip RW).map fun x=>V.int x.2.1)) D=some (.lst ((RW.map (·.1)).map V.int)):=by
    rw [upd_same,List.map_map,zip2 (fun r:RowZ=>V.int r.1) hRo.1]
    rfl
   refine ⟨D,RW.map (·.1),rfl,SqL.of h7D,fun z=>hne0 (List.map_eq_nil_iff.mp z),fun m0 hm0 hle0=>?_⟩
   have hRo7:=(Tz.of T7).rows hRo
   have hlz7:=T7 _ _ hlz
   have S57:=S6.trans T7
   generalize upd H6 D (.lst ((as.zip RW).map fun x=>V.int x.2.1))=H7 at T7 h7D hRo7 hlz7 S57
   refine ⟨_,rfl,lr,rfl,⟨_,SqL.of hlz7⟩,comp_pure (as:=as.zip RW) (v:=fun x=>V.ref x.1) (fun x=>decide (x.2.1=m0)) (fun x=>V.ref x.1) (src_list (SqL.of hlz7)) hzl (fun x hx kc hkc=>?_) (fun x hx _ kc hkc=>⟨_,rfl,hkc⟩) fun lg hlg=>?_⟩
   ·obtain ⟨t1,k1,ts1,ks1,g1,_⟩:=(Al.mem hRo7 hx).1
    refine ⟨_,rfl,x.1,_,_,_,rfl,rfl,SqT.of g1,atI_nat (j:=0) rfl,_,rfl,rfl,_,rfl,?_⟩
    rw [dec_int]
    exact hkc
   have T8:=same_upd (o:=.lst (((as.zip RW).filter fun x=>decide (x.2.1=m0)).map fun x=>V.ref x.1)) hlg
   have h8l:upd H7 lg (.lst (((as.zip RW).filter fun x=>decide (x.2.1=m0)).map fun x=>V.ref x.1)) lg=some (.lst ((((as.zip RW).filter fun x:Addr × RowZ=>decide (x.2.1=m0)).map (fun x:Addr × RowZ=>x.1)).map V.ref)):=by
    rw [upd_same,List.map_map]
    rfl
   have hG8:=(Tz.of T8).rows (Al.filt (fun r:RowZ=>decide (r.1=m0)) hRo7)
   have S58:=S57.trans T8
   generalize upd H7 lg (.lst (((as.zip RW).filter fun x=>decide (x.2.1=m0)).map fun x=>V.ref x.1))=H8 at T8 h8l hG8 S58
   generalize ((as.zip RW).filter fun x:Addr × RowZ=>decide (x.2.1=m0)).map (fun x:Addr × RowZ=>x.1)=gA at h8l hG8
   have he8:=sameT S58 he5
   have hc8:=sameT S58 hc5
   have hpr8:=sameT S58 hpr5
   refine ⟨_,rfl,_,rfl,_,rfl,e,c,r0,es,cs,pr,rfl,he8,hc8,hpr8,ge,gc,by omega,by omega,h7,fun H9 fo t tt ts sts R ps G S9 hfo ht hT hR hTo hsl hN hG=>?_⟩
   have em:=hLI R m0 hR hm0 hle0
   have hgo:∀ R',Rest (fun i st=>price es i pr st) es.length cs.length (ways es cs) R'->goodO (fun i st=>price es i pr st) es.length cs.length (ways es cs) R' 0 0=RW.filter fun r=>decide (r.1=m0):=fun R' hR'=>by rw [hGO R',hLI R' m0 hR' hm0 hle0]
   have hgl:=(List.length_filter_le (fun r:RowZ=>decide (r.1=m0)) RW)
   have hgs:∀ r ∈ RW.filter (fun r:RowZ=>decide (r.1=m0)),r.2.1.length<=6/\r.2.2.length<=6:=fun r hr'=>hsh r (List.mem_filter.mp hr').1
   have hsome:=good_some (ways_fwd es cs) (ways_none es cs) hR _ 0 0 (Nat.zero_le _) (Nat.zero_le _) (Nat.le_refl _)
   rw [hgo R hR] at hsome
   generalize RW.filter (fun r:RowZ=>decide (r.1=m0))=GO at hG8 hgo hgl hgs hsome
   obtain ⟨g,gs,rfl⟩:∃ g gs,GO=g :: gs:=by
    cases GO with
    | nil=>exact absurd rfl hsome
    | cons g gs=>exact ⟨g,gs,rfl⟩
   obtain ⟨ga,gB,rfl⟩:∃ ga gB,gA=ga :: gB:=by
    cases gA with
    | nil=>exact nomatch hG8.1
    | cons x y=>exact ⟨x,y,rfl⟩
   have hgA:(ga :: gB).length<=262144:=by rw [hG8.1];omega
   have hG9:=(Tz.of S9).rows hG8
   have h9l:=S9 _ _ h8l
   obtain ⟨tg,kg,tgs,kgs,hg1,hg2,hg3,hg4,hg5⟩:=hG9.2 0 ga g rfl rfl
   have htold:g.2.1=sts:=by
    have:=good_told (ways_fwd es cs) (ways_none es cs) hR (toldW hTo) (Nat.zero_le _) (Nat.zero_le _)
    rw [hgo R hR] at this
    exact Option.some.inj this
   refine ⟨_,rfl,_,rfl,fo,_,rfl,SqT.of hfo,fun hw=>absurd hw.2 (by show ¬ HT.sIx 3 3 (some ((2:Nat):Int))=3;rw [HT.sIx_nat];decide),fun _ fp hfp=>?_⟩
   have T10:=same_upd (o:=.tup (cutV [V.int (R 0 0),.ref t,.ref tt] none (some 2))) hfp
   have h10p:upd H9 fp (.tup (cutV [V.int (R 0 0),.ref t,.ref tt] none (some 2))) fp=some (.tup [.int (R 0 0),.ref t]):=upd_same
   generalize upd H9 fp (.tup (cutV [V.int (R 0 0),.ref t,.ref tt] none (some 2)))=H10 at T10 h10p
   refine ⟨_,rfl,_,rfl,lg,_,_,_,rfl,rfl,SqL.of (T10 _ _ h9l),atI_nat (j:=0) rfl,ga,_,_,_,rfl,rfl,SqT.of (T10 _ _ hg1),atI_nat (j:=1) rfl,few (by show 2<=_;omega),fun dp hdp=>?_⟩
   have T11:=same_upd (o:=.tup [V.int m0,.ref tg]) hdp
   have S911:=T10.trans T11
   refine ⟨_,_,rfl,sameV_seq (T11 _ _ h10p) upd_same rfl (by show 2<=_;omega) (fun l u v hu hv=>?_),_,rfl,iteF ?_⟩
   ·match l,hu,hv with
    | 0,hu,hv=>cases hu;cases hv;rw [em];exact .inl (.inl (.inr ⟨_,rfl,rfl⟩))
    | 1,hu,hv=>
     cases hu
     cases hv
     rw [htold] at hg3
     exact sameV_told (S911 _ _ ht) (S911 _ _ hg2) (hT.mono S911) (hg3.mono S911) (by omega)
    | l+2,hu,_=>simp at hu
   have S511:=(S58.trans S9).trans S911
   have he11:=sameT S511 he5
   have hc11:=sameT S511 hc5
   have hpr11:=sameT S511 hpr5
   have h11l:=S911 _ _ h9l
   have hG11:=(Tz.of S911).rows hG9
   generalize upd H10 dp (.tup [V.int m0,.ref tg])=H11 at T11 S911 S511 he11 hc11 hpr11 h11l hG11
   refine ⟨_,rfl,_,rfl,_,rfl,e,c,r0,es,cs,pr,rfl,he11,hc11,hpr11,ge,gc,by omega,by omega,h7,fun H12 R2 T2 vv S12 hR2 hC2 hv2=>?_⟩
   have hcnt:vv=(((ga :: gB).length:Nat):Int):=by
    have:=good_cnt (t:=fun a b=>(T2 a b).getD 0) (ways_fwd es cs) (ways_none es cs) hR2 (cnt_of hC2) _ 0 0 (Nat.zero_le _) (Nat.zero_le _) (Nat.le_refl _)
    rw [hgo R2 hR2,<-hG8.1] at this
    rw [this]
    show vv=(T2 0 0).getD 0
    rw [hv2]
    rfl
   have hlm:((ga :: gB).map V.ref).length=(ga :: gB).length:=List.length_map ..
   refine ⟨_,rfl,lg,_,rfl,.inl (SqL.of (S12 _ _ h11l)),?_⟩
   rw [hlm]
   refine ⟨_,_,rfl,.inl (.inl (.inl (.inr ⟨_,congrArg V.int hcnt,rfl⟩))),_,rfl,iteF ?_⟩
   have S512:=S511.trans S12
   refine ⟨_,rfl,_,rfl,_,rfl,e,c,r0,es,cs,pr,rfl,sameT S512 he5,sameT S512 hc5,sameT S512 hpr5,ge,gc,by omega,by omega,h7,fun H13 su adr R3 U3 T3 S13 h13t h13a hR3 hC3 hF3=>?_⟩
   have S1113:=S12.trans S13
   have hps:=all_math hR3 hC3 hF3 (hgo R3 hR3)
   obtain ⟨ri1,ri2⟩:=first_rise (hgo R3 hR3)
   refine ⟨_,rfl,lg,ga :: gB,g,gs,rfl,SqL.of (S1113 _ _ h11l),(Tz.of S1113).rows hG11,hgA,(hgs g List.mem_cons_self).2,fun H14 tk ks S14 h14t hPk=>?_⟩
   have ri1:=List.Pairwise.filter (fun q=>decide (∀ r ∈ g :: gs,q ∈ r.2.2)) ri1
   have ri2:∀ p ∈ g.2.2.filter (fun q=>decide (∀ r ∈ g :: gs,q ∈ r.2.2)),p.2 < cs.length:=fun p hp=>(ri2 p (List.mem_filter.mp hp).1).2
   have hpl:=Nat.le_trans (List.length_filter_le (fun q=>decide (∀ r ∈ g :: gs,q ∈ r.2.2)) g.2.2) (hgs g List.mem_cons_self).2
   generalize g.2.2.filter (fun q=>decide (∀ r ∈ g :: gs,q ∈ r.2.2))=pp at hps hPk ri1 ri2 hpl
   refine ⟨tk,ks,fun k=>(((pp.getD k (0,0)).1:Nat):Int),fun k=>(((pp.getD k (0,0)).2:Nat):Int),rfl,SqT.of h14t,by rw [hPk.1];omega,fun k b hkb=>?_,fun k hk=>?_,fun sl hsl'=>?_⟩
   ·have hkl:k < pp.length:=by rw [<-hPk.1];exact (List.getElem?_eq_some_iff.mp hkb).1
    have:=hPk.2 k b pp[k] hkb (List.getElem?_eq_getElem hkl)
    show H14 b=some (.tup [.int (((pp.getD k (0,0)).1:Nat):Int),.int (((pp.getD k (0,0)).2:Nat):Int)])
    rw [List.getD_eq_getElem?_getD,List.getElem?_eq_getElem hkl]
    exact this
   ·have hk1:k+1 < pp.length:=by rw [<-hPk.1];exact hk
    have hlt:=List.pairwise_iff_getElem.mp ri1 k (k+1) (by omega) hk1 (by omega)
    have b1:=ri2 _ (List.getElem_mem (l:=pp) (n:=k) (by omega))
    have b2:=ri2 _ (List.getElem_mem hk1)
    show ((((pp.getD k (0,0)).1:Nat):Int) < (((pp.getD (k+1) (0,0)).1:Nat):Int))\/((((pp.getD k (0,0)).1:Nat):Int)=(((pp.getD (k+1) (0,0)).1:Nat):Int)/\(((pp.getD k (0,0)).2:Nat):Int) < (((pp.getD (k+1) (0,0)).2:Nat):Int))
    rw [List.getD_eq_getElem?_getD,List.getD_eq_getElem?_getD,List.getElem?_eq_getElem (show k < pp.length by omega),List.getElem?_eq_getElem hk1]
    have h2:pp[k].1 < pp[k+1].1\/(pp[k+1].1=pp[k].1/\pp[k].2 < pp[k+1].2):=(code_ord (n:=cs.length) (Nat.le_of_lt b1) (Nat.le_of_lt b2)).mpr hlt
    show (((pp[k].1:Nat):Int) < ((pp[k+1].1:Nat):Int))\/(((pp[k].1:Nat):Int)=((pp[k+1].1:Nat):Int)/\((pp[k].2:Nat):Int) < ((pp[k+1].2:Nat):Int))
    omega
   ·have T15:=same_upd (o:=.lst (ks.map V.ref)) hsl'
    refine ⟨sl,_,rfl,.inl ⟨SqL.of upd_same,fun du hdu=>?_⟩⟩
    have T16:=same_upd (o:=.tup (ks.map V.ref)) hdu
    have S1416:=T15.trans T16
    have S1316:=S14.trans S1416
    refine ⟨_,_,rfl,.inl (sameV_pairs (n:=cs.length) (S1316 _ _ h13t) upd_same ((Tz.of S1416).pairs hPk) hps ri2 (fun c hc=>S1316 _ _ (h13a c (List.mem_range.mp (List.mem_filter.mp hc).1))) (by omega)),_,rfl,iteF ⟨_,_,_,_,_,_,rfl,(S35.trans S512).trans (S13.trans S1316)⟩⟩
  ·rintro σ H3 ⟨v2,v3,v4,v5,v6,v7,rfl,S3⟩
   exact q _
theorem ok_law {f gLooks gPrice gSwW gSkL gWays gEmp gTld gPtab gRtab gCW gFC gLs gNet gMT gMF gCM gSure gCell gStir gNext gSame gWord gPrices gEye gSlip gPair gPairs gLSteps gLAlk gLPrice gEnd gArms gKnots gARows gInAll aD aS:Addr} {fd dLooks dPrice dSwW dSkL dWays dEmp dTld dPtab dRtab dCW dFC dLs dNet dMT dMF dCM dSure dCell dStir dNext dSame dWord dPrices dEye dSlip dPair dPairs dLSteps dLAlk dLPrice dEnd dArms dKnots dARows dInAll:FuncData} {esD:Array DictEntry} {nD:Nat} {tL:Tok} (F:Fun K "law" "law" sLaw f fd)
  (DLooks:Dfn K mg "looks_alike" sLooks gLooks dLooks ["one","two"])
  (DPrice:Dfn K mg "step_price" sPrice gPrice dPrice ["elder","done","step","prices"])
  (DSwW:Dfn K mg "swap_writes" sSwW gSwW dSwW ["elder","copy","i","j"])
  (DSkL:Dfn K mg "skip_lengths" sSkL gSkL dSkL ["elder","i"])
  (DWays:Dfn K mg "knot_ways" sWays gWays dWays ["elder","copy","i","j"])
  (DEmp:Dfn K mg "empty_table" sEmp gEmp dEmp ["elder","copy"])
  (DTld:Dfn K mg "table_told" sTld gTld dTld ["table"])
  (DPtab:Dfn K mg "price_table" sPtab gPtab dPtab ["elder","copy","prices"])
  (DRtab:Dfn K mg "rest_table" sRtab gRtab dRtab ["elder","copy","prices"])
  (DCW:Dfn K mg "cheapest_ways" sCW gCW dCW ["elder","copy","prices","rest","i","j"])
  (DFC:Dfn K mg "first_cheapest" sFC gFC dFC ["elder","copy","prices"])
  (DLs:Dfn K mg "least_slips" sLs gLs dLs ["elder","copy","prices"])
  (DNet:Dfn K mg "cheapest_net" sNet gNet dNet ["elder","copy","prices"])
  (DMT:Dfn K mg "many_to" sMT gMT dMT ["net"])
  (DMF:Dfn K mg "many_from" sMF gMF dMF ["net"])
  (DCM:Dfn K mg "cheapest_many" sCM gCM dCM ["elder","copy","prices"])
  (DSure:Dfn K mg "sure_pairs" sSure gSure dSure ["elder","copy","prices"])
  (DCell:Dfn K mg "_law_cell_at" sCell gCell dCell ["script","k"])
  (DStir:Dfn K mg "_law_stir" sStir gStir dStir ["cell"])
  (DNext:Dfn K mg "_law_next" sNext gNext dNext ["left"])
  (DSame:Dfn K mg "_law_same" sSame gSame dSame ["found","due"])
  (DWord:Dfn K mg "_law_word" sWord gWord dWord ["seed","code"])
  (DPrices:Dfn K mg "_law_prices" sPrices gPrices dPrices ["cell"])
  (DEye:Dfn K mg "_law_eye" sEye gEye dEye ["elder","left","seed","most"])
  (DSlip:Dfn K mg "_law_slip" sSlip gSlip dSlip ["elder","copy","steps","left","words"])
  (DPair:Dfn K mg "_law_pair" sPair gPair dPair ["cells","seed","most"])
  (DPairs:Dfn K mg "_law_pairs" sPairs gPairs dPairs ["script","many"])
  (DLSteps:Dfn K mg "_law_steps" sLSteps gLSteps dLSteps ["elder","copy","i","j"])
  (DLAlk:Dfn K mg "_law_alike" sLAlk gLAlk dLAlk ["one","two"])
  (DLPrice:Dfn K mg "_law_price" sLPrice gLPrice dLPrice ["elder","i","step","prices"])
  (DEnd:Dfn K mg "_law_end" sEnd gEnd dEnd ["i","j","step"])
  (DArms:Dfn K mg "_law_arms" sArms gArms dArms ["elder","copy","prices","i","j"])
  (DKnots:Dfn K mg "_law_knots" sKnots gKnots dKnots ["elder","copy"])
  (DARows:Dfn K mg "_law_all_rows" sARows gARows dARows ["elder","copy","prices"])
  (DInAll:Dfn K mg "_law_in_all" sInAll gInAll dInAll ["rows"])
  (mlen:mg "len" = none) (mrange:mg "range" = none) (misi:mg "isinstance" = none) (mtup:mg "tuple" = none) (mstr:mg "str" = none) (mint:mg "int" = none) (mbool:mg "bool" = none) (mmax:mg "max" = none) (mmin:mg "min" = none) (mall:mg "all" = none) (mrev:mg "reversed" = none) (mlist:mg "list" = none) (msum:mg "sum" = none) (msorted:mg "sorted" = none)
  (mL:mg "LIKE" = some (.int 0 tL)) (mPP:mg "PRICE_PLACES" = some (.ref aD)) (pl:Places w K aD esD nD) (mS:mg "START" = some (.ref aS)) (hSt:∀ H,SqT K H aS [.int 0,.int 0]) (kk:Kinds K) :
  FnOk P w K mg base CX0 6 f fd ["script"] (spLaw K):=by
 have GWays:FnOk P w K mg base CX0 2 gWays dWays ["elder","copy","i","j"] (spWays K):=ok_ways DWays.fn DSwW DSkL mlen mrange
 have GLooks:FnOk P w K mg base CX0 1 gLooks dLooks ["one","two"] spAlike:=ok_Looks DLooks.fn mlen mrange
 have GPrice:FnOk P w K mg base CX0 2 gPrice dPrice ["elder","done","step","prices"] (spPrice K):=ok_price DPrice.fn DLooks GLooks mL mPP pl
 have GPtab:FnOk P w K mg base CX0 4 gPtab dPtab ["elder","copy","prices"] (spPtab K):=(ok_ptab DPtab.fn DEmp DTld DWays GWays DPrice GPrice mlen mrange mtup).mono (by decide)
 have GCell:FnOk P w K mg base CX0 5 gCell dCell ["script","k"] (spCell K):=(ok_cell DCell.fn mlen).mono (by decide)
 have GPrices:FnOk P w K mg base CX0 5 gPrices dPrices ["cell"] spPrices:=(ok_prices DPrices.fn DStir DNext mrange mtup).mono (by decide)
 have GPair:FnOk P w K mg base CX0 3 gPair dPair ["cells","seed","most"] (spPair K):=ok_pair DPair.fn DStir DEye DWord DSlip mlen mrange mmax mmin mtup
 have GPairs:FnOk P w K mg base CX0 5 gPairs dPairs ["script","many"] (spPairs K):=(ok_pairs DPairs.fn DCell DStir DPair GPair mlen mrange).mono (by decide)
 have GLSteps:FnOk P w K mg base CX0 2 gLSteps dLSteps ["elder","copy","i","j"] (spLSt K):=(ok_lst DLSteps.fn mlen mrange).mono (by decide)
 have GLAlk:FnOk P w K mg base CX0 1 gLAlk dLAlk ["one","two"] spAlike:=ok_lalk DLAlk.fn mlen mrange
 have GLPrice:FnOk P w K mg base CX0 2 gLPrice dLPrice ["elder","i","step","prices"] (spPrice K):=ok_lprice DLPrice.fn DLAlk GLAlk mint
 have GArms:FnOk P w K mg base CX0 3 gArms dArms ["elder","copy","prices","i","j"] (spArms K):=ok_arms DArms.fn DLSteps GLSteps DEnd DLPrice GLPrice
 have GKnots:FnOk P w K mg base CX0 3 gKnots dKnots ["elder","copy"] (spKnO K):=(ok_knO DKnots.fn mlen mrange).mono (by decide)
 have GRtab:FnOk P w K mg base CX0 3 gRtab dRtab ["elder","copy","prices"] (spRtab K):=ok_rtab DRtab.fn DEmp DTld DWays GWays DPrice GPrice mlen mrange mtup mmin
 have GCW:FnOk P w K mg base CX0 3 gCW dCW ["elder","copy","prices","rest","i","j"] (spCW K):=ok_cw DCW.fn DWays GWays DPrice GPrice
 have GFC:FnOk P w K mg base CX0 4 gFC dFC ["elder","copy","prices"] (spFC K):=ok_fc DFC.fn DRtab GRtab DCW GCW mlen mtup
 have GLs:FnOk P w K mg base CX0 5 gLs dLs ["elder","copy","prices"] (spLs K):=ok_ls DLs.fn DPtab GPtab DFC GFC
 have GNet:FnOk P w K mg base CX0 4 gNet dNet ["elder","copy","prices"] (spNet P w K):=ok_net DNet.fn DRtab GRtab DCW GCW mlen mrange
 have GMF:FnOk P w K mg base CX0 4 gMF dMF ["net"] (spMF P w):=(ok_mf DMF.fn mlen mlist mrev msum).mono (by decide)
 have GMT:FnOk P w K mg base CX0 4 gMT dMT ["net"] (spMT P w K):=(ok_mt DMT.fn mS hSt).mono (by decide)
 have GCM:FnOk P w K mg base CX0 5 gCM dCM ["elder","copy","prices"] (spCM K):=ok_cm DCM.fn DNet GNet DMF GMF mS hSt
 have GSure:FnOk P w K mg base CX0 5 gSure dSure ["elder","copy","prices"] (spSure K):=ok_sure DSure.fn DNet GNet DMF GMF DMT GMT mS hSt mtup
 have GSame:FnOk P w K mg base CX0 5 gSame dSame ["found","due"] (spSame 3):=(ok_same DSame.fn DSame misi mtup mstr mint mbool mlen mrange kk 3).mono (by decide)
 have GARows:FnOk P w K mg base CX0 5 gARows dARows ["elder","copy","prices"] (spARows K):=(ok_arows DARows.fn DKnots GKnots DArms GArms mlen mrev).mono (by decide)
 have GInAll:FnOk P w K mg base CX0 5 gInAll dInAll ["rows"] (spInAll K):=(ok_inall DInAll.fn mlen mtup).mono (by decide)
 exact ok_lawG F DCell GCell DPrices GPrices DPairs GPairs DARows GARows DLs GLs DSame GSame DCM GCM DSure GSure DInAll GInAll mlen mtup mmin msorted
end
theorem all_mk {l:PySem.W.OpenLaw} {w:World} {K:PySem.W.Frag} {h:Heap} {mg:Str->Option Value} {fa fLooks fPrice fSwW fSkL fWays fEmp fTld fPtab fRtab fCW fFC fLs fNet fMT fMF fCM fSure fCell fStir fNext fSame fWord fPrices fEye fSlip fPair fPairs fLSteps fLAlk fLPrice fEnd fArms fKnots fARows fInAll fLaw:Addr} (X:K.In h) (G:h.Ns mainGlobals mg) (hfa:mg "law" = some (.ref fa))
  {odLooks anLooks odPrice anPrice odSwW anSwW odSkL anSkL odWays anWays odEmp anEmp odTld anTld odPtab anPtab odRtab anRtab odCW anCW odFC anFC odLs anLs odNet anNet odMT anMT odMF anMF odCM anCM odSure anSure odCell anCell odStir anStir odNext anNext odSame anSame odWord anWord odPrices anPrices odEye anEye odSlip anSlip odPair anPair odPairs anPairs odLSteps anLSteps odLAlk anLAlk odLPrice anLPrice odEnd anEnd odArms anArms odKnots anKnots odARows anARows odInAll anInAll odLaw anLaw:Option Addr} {slLooks slPrice slSwW slSkL slWays slEmp slTld slPtab slRtab slCW slFC slLs slNet slMT slMF slCM slSure slCell slStir slNext slSame slWord slPrices slEye slSlip slPair slPairs slLSteps slLAlk slLPrice slEnd slArms slKnots slARows slInAll slLaw:Array (Option Value)} {ocLooks kVLooks dcLooks pmLooks cdLooks ctLooks ocPrice kVPrice dcPrice pmPrice cdPrice ctPrice ocSwW kVSwW dcSwW pmSwW cdSwW ctSwW ocSkL kVSkL dcSkL pmSkL cdSkL ctSkL ocWays kVWays dcWays pmWays cdWays ctWays ocEmp kVEmp dcEmp pmEmp cdEmp ctEmp ocTld kVTld dcTld pmTld cdTld ctTld ocPtab kVPtab dcPtab pmPtab cdPtab ctPtab ocRtab kVRtab dcRtab pmRtab cdRtab ctRtab ocCW kVCW dcCW pmCW cdCW ctCW ocFC kVFC dcFC pmFC cdFC ctFC ocLs kVLs dcLs pmLs cdLs ctLs ocNet kVNet dcNet pmNet cdNet ctNet ocMT kVMT dcMT pmMT cdMT ctMT ocMF kVMF dcMF pmMF cdMF ctMF ocCM kVCM dcCM pmCM cdCM ctCM ocSure kVSure dcSure pmSure cdSure ctSure ocCell kVCell dcCell pmCell cdCell ctCell ocStir kVStir dcStir pmStir cdStir ctStir ocNext kVNext dcNext pmNext cdNext ctNext ocSame kVSame dcSame pmSame cdSame ctSame ocWord kVWord dcWord pmWord cdWord ctWord ocPrices kVPrices dcPrices pmPrices cdPrices ctPrices ocEye kVEye dcEye pmEye cdEye ctEye ocSlip kVSlip dcSlip pmSlip cdSlip ctSlip ocPair kVPair dcPair pmPair cdPair ctPair ocPairs kVPairs dcPairs pmPairs cdPairs ctPairs ocLSteps kVLSteps dcLSteps pmLSteps cdLSteps ctLSteps ocLAlk kVLAlk dcLAlk pmLAlk cdLAlk ctLAlk ocLPrice kVLPrice dcLPrice pmLPrice cdLPrice ctLPrice ocEnd kVEnd dcEnd pmEnd cdEnd ctEnd ocArms kVArms dcArms pmArms cdArms ctArms ocKnots kVKnots dcKnots pmKnots cdKnots ctKnots ocARows kVARows dcARows pmARows cdARows ctARows ocInAll kVInAll dcInAll pmInAll cdInAll ctInAll ocLaw kVLaw dcLaw pmLaw cdLaw ctLaw:Value} {tkLIKE:Tok}
  {aD:Addr} {esD:Array DictEntry} {nD:Nat} {q1 q2 q3 q4 q5 q6:Tok} {aS:Addr} {nS:Nat} {s1 s2:Tok}
  (aLooks:PySem.W.nsIn K mainGlobals "looks_alike" = some (some (.ref fLooks))) (lLooks:K.lookup fLooks=some ⟨ocLooks,odLooks,.func (PySem.W.fnOf "looks_alike" "looks_alike" (defArgs sLooks) (defBody sLooks) (defScope sLooks) .none kVLooks dcLooks pmLooks anLooks cdLooks ctLooks),slLooks⟩) (cLooks:PySem.W.codeIn K cdLooks "looks_alike" = true) (kLooks:PySem.W.keepIn K (.ref fLooks)=true)
  (aPrice:PySem.W.nsIn K mainGlobals "step_price" = some (some (.ref fPrice))) (lPrice:K.lookup fPrice=some ⟨ocPrice,odPrice,.func (PySem.W.fnOf "step_price" "step_price" (defArgs sPrice) (defBody sPrice) (defScope sPrice) .none kVPrice dcPrice pmPrice anPrice cdPrice ctPrice),slPrice⟩) (cPrice:PySem.W.codeIn K cdPrice "step_price" = true) (kPrice:PySem.W.keepIn K (.ref fPrice)=true)
  (aSwW:PySem.W.nsIn K mainGlobals "swap_writes" = some (some (.ref fSwW))) (lSwW:K.lookup fSwW=some ⟨ocSwW,odSwW,.func (PySem.W.fnOf "swap_writes" "swap_writes" (defArgs sSwW) (defBody sSwW) (defScope sSwW) .none kVSwW dcSwW pmSwW anSwW cdSwW ctSwW),slSwW⟩) (cSwW:PySem.W.codeIn K cdSwW "swap_writes" = true) (kSwW:PySem.W.keepIn K (.ref fSwW)=true)
  (aSkL:PySem.W.nsIn K mainGlobals "skip_lengths" = some (some (.ref fSkL))) (lSkL:K.lookup fSkL=some ⟨ocSkL,odSkL,.func (PySem.W.fnOf "skip_lengths" "skip_lengths" (defArgs sSkL) (defBody sSkL) (defScope sSkL) .none kVSkL dcSkL pmSkL anSkL cdSkL ctSkL),slSkL⟩) (cSkL:PySem.W.codeIn K cdSkL "skip_lengths" = true) (kSkL:PySem.W.keepIn K (.ref fSkL)=true)
  (aWays:PySem.W.nsIn K mainGlobals "knot_ways" = some (some (.ref fWays))) (lWays:K.lookup fWays=some ⟨ocWays,odWays,.func (PySem.W.fnOf "knot_ways" "knot_ways" (defArgs sWays) (defBody sWays) (defScope sWays) .none kVWays dcWays pmWays anWays cdWays ctWays),slWays⟩) (cWays:PySem.W.codeIn K cdWays "knot_ways" = true) (kWays:PySem.W.keepIn K (.ref fWays)=true)
  (aEmp:PySem.W.nsIn K mainGlobals "empty_table" = some (some (.ref fEmp))) (lEmp:K.lookup fEmp=some ⟨ocEmp,odEmp,.func (PySem.W.fnOf "empty_table" "empty_table" (defArgs sEmp) (defBody sEmp) (defScope sEmp) .none kVEmp dcEmp pmEmp anEmp cdEmp ctEmp),slEmp⟩) (cEmp:PySem.W.codeIn K cdEmp "empty_table" = true) (kEmp:PySem.W.keepIn K (.ref fEmp)=true)
  (aTld:PySem.W.nsIn K mainGlobals "table_told" = some (some (.ref fTld))) (lTld:K.lookup fTld=some ⟨ocTld,odTld,.func (PySem.W.fnOf "table_told" "table_told" (defArgs sTld) (defBody sTld) (defScope sTld) .none kVTld dcTld pmTld anTld cdTld ctTld),slTld⟩) (cTld:PySem.W.codeIn K cdTld "table_told" = true) (kTld:PySem.W.keepIn K (.ref fTld)=true)
  (aPtab:PySem.W.nsIn K mainGlobals "price_table" = some (some (.ref fPtab))) (lPtab:K.lookup fPtab=some ⟨ocPtab,odPtab,.func (PySem.W.fnOf "price_table" "price_table" (defArgs sPtab) (defBody sPtab) (defScope sPtab) .none kVPtab dcPtab pmPtab anPtab cdPtab ctPtab),slPtab⟩) (cPtab:PySem.W.codeIn K cdPtab "price_table" = true) (kPtab:PySem.W.keepIn K (.ref fPtab)=true)
  (aRtab:PySem.W.nsIn K mainGlobals "rest_table" = some (some (.ref fRtab))) (lRtab:K.lookup fRtab=some ⟨ocRtab,odRtab,.func (PySem.W.fnOf "rest_table" "rest_table" (defArgs sRtab) (defBody sRtab) (defScope sRtab) .none kVRtab dcRtab pmRtab anRtab cdRtab ctRtab),slRtab⟩) (cRtab:PySem.W.codeIn K cdRtab "rest_table" = true) (kRtab:PySem.W.keepIn K (.ref fRtab)=true)
  (aCW:PySem.W.nsIn K mainGlobals "cheapest_ways" = some (some (.ref fCW))) (lCW:K.lookup fCW=some ⟨ocCW,odCW,.func (PySem.W.fnOf "cheapest_ways" "cheapest_ways" (defArgs sCW) (defBody sCW) (defScope sCW) .none kVCW dcCW pmCW anCW cdCW ctCW),slCW⟩) (cCW:PySem.W.codeIn K cdCW "cheapest_ways" = true) (kCW:PySem.W.keepIn K (.ref fCW)=true)
  (aFC:PySem.W.nsIn K mainGlobals "first_cheapest" = some (some (.ref fFC))) (lFC:K.lookup fFC=some ⟨ocFC,odFC,.func (PySem.W.fnOf "first_cheapest" "first_cheapest" (defArgs sFC) (defBody sFC) (defScope sFC) .none kVFC dcFC pmFC anFC cdFC ctFC),slFC⟩) (cFC:PySem.W.codeIn K cdFC "first_cheapest" = true) (kFC:PySem.W.keepIn K (.ref fFC)=true)
  (aLs:PySem.W.nsIn K mainGlobals "least_slips" = some (some (.ref fLs))) (lLs:K.lookup fLs=some ⟨ocLs,odLs,.func (PySem.W.fnOf "least_slips" "least_slips" (defArgs sLs) (defBody sLs) (defScope sLs) .none kVLs dcLs pmLs anLs cdLs ctLs),slLs⟩) (cLs:PySem.W.codeIn K cdLs "least_slips" = true) (kLs:PySem.W.keepIn K (.ref fLs)=true)
  (aNet:PySem.W.nsIn K mainGlobals "cheapest_net" = some (some (.ref fNet))) (lNet:K.lookup fNet=some ⟨ocNet,odNet,.func (PySem.W.fnOf "cheapest_net" "cheapest_net" (defArgs sNet) (defBody sNet) (defScope sNet) .none kVNet dcNet pmNet anNet cdNet ctNet),slNet⟩) (cNet:PySem.W.codeIn K cdNet "cheapest_net" = true) (kNet:PySem.W.keepIn K (.ref fNet)=true)
  (aMT:PySem.W.nsIn K mainGlobals "many_to" = some (some (.ref fMT))) (lMT:K.lookup fMT=some ⟨ocMT,odMT,.func (PySem.W.fnOf "many_to" "many_to" (defArgs sMT) (defBody sMT) (defScope sMT) .none kVMT dcMT pmMT anMT cdMT ctMT),slMT⟩) (cMT:PySem.W.codeIn K cdMT "many_to" = true) (kMT:PySem.W.keepIn K (.ref fMT)=true)
  (aMF:PySem.W.nsIn K mainGlobals "many_from" = some (some (.ref fMF))) (lMF:K.lookup fMF=some ⟨ocMF,odMF,.func (PySem.W.fnOf "many_from" "many_from" (defArgs sMF) (defBody sMF) (defScope sMF) .none kVMF dcMF pmMF anMF cdMF ctMF),slMF⟩) (cMF:PySem.W.codeIn K cdMF "many_from" = true) (kMF:PySem.W.keepIn K (.ref fMF)=true)
  (aCM:PySem.W.nsIn K mainGlobals "cheapest_many" = some (some (.ref fCM))) (lCM:K.lookup fCM=some ⟨ocCM,odCM,.func (PySem.W.fnOf "cheapest_many" "cheapest_many" (defArgs sCM) (defBody sCM) (defScope sCM) .none kVCM dcCM pmCM anCM cdCM ctCM),slCM⟩) (cCM:PySem.W.codeIn K cdCM "cheapest_many" = true) (kCM:PySem.W.keepIn K (.ref fCM)=true)
  (aSure:PySem.W.nsIn K mainGlobals "sure_pairs" = some (some (.ref fSure))) (lSure:K.lookup fSure=some ⟨ocSure,odSure,.func (PySem.W.fnOf "sure_pairs" "sure_pairs" (defArgs sSure) (defBody sSure) (defScope sSure) .none kVSure dcSure pmSure anSure cdSure ctSure),slSure⟩) (cSure:PySem.W.codeIn K cdSure "sure_pairs" = true) (kSure:PySem.W.keepIn K (.ref fSure)=true)
  (aCell:PySem.W.nsIn K mainGlobals "_law_cell_at" = some (some (.ref fCell))) (lCell:K.lookup fCell=some ⟨ocCell,odCell,.func (PySem.W.fnOf "_law_cell_at" "_law_cell_at" (defArgs sCell) (defBody sCell) (defScope sCell) .none kVCell dcCell pmCell anCell cdCell ctCell),slCell⟩) (cCell:PySem.W.codeIn K cdCell "_law_cell_at" = true) (kCell:PySem.W.keepIn K (.ref fCell)=true)
  (aStir:PySem.W.nsIn K mainGlobals "_law_stir" = some (some (.ref fStir))) (lStir:K.lookup fStir=some ⟨ocStir,odStir,.func (PySem.W.fnOf "_law_stir" "_law_stir" (defArgs sStir) (defBody sStir) (defScope sStir) .none kVStir dcStir pmStir anStir cdStir ctStir),slStir⟩) (cStir:PySem.W.codeIn K cdStir "_law_stir" = true) (kStir:PySem.W.keepIn K (.ref fStir)=true)
  (aNext:PySem.W.nsIn K mainGlobals "_law_next" = some (some (.ref fNext))) (lNext:K.lookup fNext=some ⟨ocNext,odNext,.func (PySem.W.fnOf "_law_next" "_law_next" (defArgs sNext) (defBody sNext) (defScope sNext) .none kVNext dcNext pmNext anNext cdNext ctNext),slNext⟩) (cNext:PySem.W.codeIn K cdNext "_law_next" = true) (kNext:PySem.W.keepIn K (.ref fNext)=true)
  (aSame:PySem.W.nsIn K mainGlobals "_law_same" = some (some (.ref fSame))) (lSame:K.lookup fSame=some ⟨ocSame,odSame,.func (PySem.W.fnOf "_law_same" "_law_same" (defArgs sSame) (defBody sSame) (defScope sSame) .none kVSame dcSame pmSame anSame cdSame ctSame),slSame⟩) (cSame:PySem.W.codeIn K cdSame "_law_same" = true) (kSame:PySem.W.keepIn K (.ref fSame)=true)
  (aWord:PySem.W.nsIn K mainGlobals "_law_word" = some (some (.ref fWord))) (lWord:K.lookup fWord=some ⟨ocWord,odWord,.func (PySem.W.fnOf "_law_word" "_law_word" (defArgs sWord) (defBody sWord) (defScope sWord) .none kVWord dcWord pmWord anWord cdWord ctWord),slWord⟩) (cWord:PySem.W.codeIn K cdWord "_law_word" = true) (kWord:PySem.W.keepIn K (.ref fWord)=true)
  (aPrices:PySem.W.nsIn K mainGlobals "_law_prices" = some (some (.ref fPrices))) (lPrices:K.lookup fPrices=some ⟨ocPrices,odPrices,.func (PySem.W.fnOf "_law_prices" "_law_prices" (defArgs sPrices) (defBody sPrices) (defScope sPrices) .none kVPrices dcPrices pmPrices anPrices cdPrices ctPrices),slPrices⟩) (cPrices:PySem.W.codeIn K cdPrices "_law_prices" = true) (kPrices:PySem.W.keepIn K (.ref fPrices)=true)
  (aEye:PySem.W.nsIn K mainGlobals "_law_eye" = some (some (.ref fEye))) (lEye:K.lookup fEye=some ⟨ocEye,odEye,.func (PySem.W.fnOf "_law_eye" "_law_eye" (defArgs sEye) (defBody sEye) (defScope sEye) .none kVEye dcEye pmEye anEye cdEye ctEye),slEye⟩) (cEye:PySem.W.codeIn K cdEye "_law_eye" = true) (kEye:PySem.W.keepIn K (.ref fEye)=true)
  (aSlip:PySem.W.nsIn K mainGlobals "_law_slip" = some (some (.ref fSlip))) (lSlip:K.lookup fSlip=some ⟨ocSlip,odSlip,.func (PySem.W.fnOf "_law_slip" "_law_slip" (defArgs sSlip) (defBody sSlip) (defScope sSlip) .none kVSlip dcSlip pmSlip anSlip cdSlip ctSlip),slSlip⟩) (cSlip:PySem.W.codeIn K cdSlip "_law_slip" = true) (kSlip:PySem.W.keepIn K (.ref fSlip)=true)
  (aPair:PySem.W.nsIn K mainGlobals "_law_pair" = some (some (.ref fPair))) (lPair:K.lookup fPair=some ⟨ocPair,odPair,.func (PySem.W.fnOf "_law_pair" "_law_pair" (defArgs sPair) (defBody sPair) (defScope sPair) .none kVPair dcPair pmPair anPair cdPair ctPair),slPair⟩) (cPair:PySem.W.codeIn K cdPair "_law_pair" = true) (kPair:PySem.W.keepIn K (.ref fPair)=true)
  (aPairs:PySem.W.nsIn K mainGlobals "_law_pairs" = some (some (.ref fPairs))) (lPairs:K.lookup fPairs=some ⟨ocPairs,odPairs,.func (PySem.W.fnOf "_law_pairs" "_law_pairs" (defArgs sPairs) (defBody sPairs) (defScope sPairs) .none kVPairs dcPairs pmPairs anPairs cdPairs ctPairs),slPairs⟩) (cPairs:PySem.W.codeIn K cdPairs "_law_pairs" = true) (kPairs:PySem.W.keepIn K (.ref fPairs)=true)
  (aLSteps:PySem.W.nsIn K mainGlobals "_law_steps" = some (some (.ref fLSteps))) (lLSteps:K.lookup fLSteps=some ⟨ocLSteps,odLSteps,.func (PySem.W.fnOf "_law_steps" "_law_steps" (defArgs sLSteps) (defBody sLSteps) (defScope sLSteps) .none kVLSteps dcLSteps pmLSteps anLSteps cdLSteps ctLSteps),slLSteps⟩) (cLSteps:PySem.W.codeIn K cdLSteps "_law_steps" = true) (kLSteps:PySem.W.keepIn K (.ref fLSteps)=true)
  (aLAlk:PySem.W.nsIn K mainGlobals "_law_alike" = some (some (.ref fLAlk))) (lLAlk:K.lookup fLAlk=some ⟨ocLAlk,odLAlk,.func (PySem.W.fnOf "_law_alike" "_law_alike" (defArgs sLAlk) (defBody sLAlk) (defScope sLAlk) .none kVLAlk dcLAlk pmLAlk anLAlk cdLAlk ctLAlk),slLAlk⟩) (cLAlk:PySem.W.codeIn K cdLAlk "_law_alike" = true) (kLAlk:PySem.W.keepIn K (.ref fLAlk)=true)
  (aLPrice:PySem.W.nsIn K mainGlobals "_law_price" = some (some (.ref fLPrice))) (lLPrice:K.lookup fLPrice=some ⟨ocLPrice,odLPrice,.func (PySem.W.fnOf "_law_price" "_law_price" (defArgs sLPrice) (defBody sLPrice) (defScope sLPrice) .none kVLPrice dcLPrice pmLPrice anLPrice cdLPrice ctLPrice),slLPrice⟩) (cLPrice:PySem.W.codeIn K cdLPrice "_law_price" = true) (kLPrice:PySem.W.keepIn K (.ref fLPrice)=true)
  (aEnd:PySem.W.nsIn K mainGlobals "_law_end" = some (some (.ref fEnd))) (lEnd:K.lookup fEnd=some ⟨ocEnd,odEnd,.func (PySem.W.fnOf "_law_end" "_law_end" (defArgs sEnd) (defBody sEnd) (defScope sEnd) .none kVEnd dcEnd pmEnd anEnd cdEnd ctEnd),slEnd⟩) (cEnd:PySem.W.codeIn K cdEnd "_law_end" = true) (kEnd:PySem.W.keepIn K (.ref fEnd)=true)
  (aArms:PySem.W.nsIn K mainGlobals "_law_arms" = some (some (.ref fArms))) (lArms:K.lookup fArms=some ⟨ocArms,odArms,.func (PySem.W.fnOf "_law_arms" "_law_arms" (defArgs sArms) (defBody sArms) (defScope sArms) .none kVArms dcArms pmArms anArms cdArms ctArms),slArms⟩) (cArms:PySem.W.codeIn K cdArms "_law_arms" = true) (kArms:PySem.W.keepIn K (.ref fArms)=true)
  (aKnots:PySem.W.nsIn K mainGlobals "_law_knots" = some (some (.ref fKnots))) (lKnots:K.lookup fKnots=some ⟨ocKnots,odKnots,.func (PySem.W.fnOf "_law_knots" "_law_knots" (defArgs sKnots) (defBody sKnots) (defScope sKnots) .none kVKnots dcKnots pmKnots anKnots cdKnots ctKnots),slKnots⟩) (cKnots:PySem.W.codeIn K cdKnots "_law_knots" = true) (kKnots:PySem.W.keepIn K (.ref fKnots)=true)
  (aARows:PySem.W.nsIn K mainGlobals "_law_all_rows" = some (some (.ref fARows))) (lARows:K.lookup fARows=some ⟨ocARows,odARows,.func (PySem.W.fnOf "_law_all_rows" "_law_all_rows" (defArgs sARows) (defBody sARows) (defScope sARows) .none kVARows dcARows pmARows anARows cdARows ctARows),slARows⟩) (cARows:PySem.W.codeIn K cdARows "_law_all_rows" = true) (kARows:PySem.W.keepIn K (.ref fARows)=true)
  (aInAll:PySem.W.nsIn K mainGlobals "_law_in_all" = some (some (.ref fInAll))) (lInAll:K.lookup fInAll=some ⟨ocInAll,odInAll,.func (PySem.W.fnOf "_law_in_all" "_law_in_all" (defArgs sInAll) (defBody sInAll) (defScope sInAll) .none kVInAll dcInAll pmInAll anInAll cdInAll ctInAll),slInAll⟩) (cInAll:PySem.W.codeIn K cdInAll "_law_in_all" = true) (kInAll:PySem.W.keepIn K (.ref fInAll)=true)
  (aLaw:PySem.W.nsIn K mainGlobals "law" = some (some (.ref fLaw))) (lLaw:K.lookup fLaw=some ⟨ocLaw,odLaw,.func (PySem.W.fnOf "law" "law" (defArgs sLaw) (defBody sLaw) (defScope sLaw) .none kVLaw dcLaw pmLaw anLaw cdLaw ctLaw),slLaw⟩) (cLaw:PySem.W.codeIn K cdLaw "law" = true) (kLaw:PySem.W.keepIn K (.ref fLaw)=true)
  (gLIKE:PySem.W.nsIn K mainGlobals "LIKE" = some (some (.int 0 tkLIKE)))
  (gPRICE_PLACES:PySem.W.nsIn K mainGlobals "PRICE_PLACES" = some (some (.ref aD)))
  (gSTART:PySem.W.nsIn K mainGlobals "START" = some (some (.ref aS)))
  (blen:PySem.W.nsIn K mainGlobals "len" = some none)
  (brange:PySem.W.nsIn K mainGlobals "range" = some none)
  (bisinstance:PySem.W.nsIn K mainGlobals "isinstance" = some none)
  (btuple:PySem.W.nsIn K mainGlobals "tuple" = some none)
  (bstr:PySem.W.nsIn K mainGlobals "str" = some none)
  (bint:PySem.W.nsIn K mainGlobals "int" = some none)
  (bbool:PySem.W.nsIn K mainGlobals "bool" = some none)
  (bmax:PySem.W.nsIn K mainGlobals "max" = some none)
  (bmin:PySem.W.nsIn K mainGlobals "min" = some none)
  (ball:PySem.W.nsIn K mainGlobals "all" = some none)
  (breversed:PySem.W.nsIn K mainGlobals "reversed" = some none)
  (blist:PySem.W.nsIn K mainGlobals "list" = some none)
  (bsum:PySem.W.nsIn K mainGlobals "sum" = some none)
  (bsorted:PySem.W.nsIn K mainGlobals "sorted" = some none)
  (dl:K.lookup aD=some ⟨.type "dict",none,.dict esD nD,#[]⟩)
  (dk:PySem.W.KeysLit w.params esD.toList)
  (d1:PySem.W.nsIn K aD "turn" = some (some (.int 1 q1)))
  (d2:PySem.W.nsIn K aD "lose" = some (some (.int 2 q2)))
  (d3:PySem.W.nsIn K aD "add" = some (some (.int 3 q3)))
  (d4:PySem.W.nsIn K aD "twice" = some (some (.int 4 q4)))
  (d5:PySem.W.nsIn K aD "swap" = some (some (.int 5 q5)))
  (d6:PySem.W.nsIn K aD "skip" = some (some (.int 6 q6)))
  (tS:K.lookup aS=some ⟨.type "tuple",none,.seq #[.int 0 s1,.int 0 s2] nS,#[]⟩)
  (j1:PySem.W.kitOne K (.type "str") (.type "tuple")=some false)
  (j2:PySem.W.kitOne K (.type "int") (.type "tuple")=some false)
  (j3:PySem.W.kitOne K (.type "int") (.type "str")=some false)
  (i6:PySem.W.kitOne K (.type "int") (.type "bool")=some false)
  : ∃ fd:FuncData,(∀ (s:Shared) (v:Value),BindsTo s fd ⟨[v],[]⟩ [("script",v)])/\∀ base:Heap,K.In base->base.Ns mainGlobals mg->FnOk l.prog w K mg base CX0 6 fa fd ["script"] (spLaw K):=by
 have e:=hfa.symm.trans (PySem.W.mg_of X G aLaw)
 cases e
 have FLooks:=fun_mk (st:=sLooks) lLooks cLooks kLooks
 have b_Looks:=FLooks.binds (ps:=["one","two"]) fun _ _ _ _ _ _ us hl=>match us,hl with | [_,_],_=>rfl
 have DLooks:Dfn K mg "looks_alike" sLooks fLooks _ ["one","two"]:=⟨FLooks,PySem.W.mg_of X G aLooks,b_Looks⟩
 have FPrice:=fun_mk (st:=sPrice) lPrice cPrice kPrice
 have b_Price:=FPrice.binds (ps:=["elder","done","step","prices"]) fun _ _ _ _ _ _ us hl=>match us,hl with | [_,_,_,_],_=>rfl
 have DPrice:Dfn K mg "step_price" sPrice fPrice _ ["elder","done","step","prices"]:=⟨FPrice,PySem.W.mg_of X G aPrice,b_Price⟩
 have FSwW:=fun_mk (st:=sSwW) lSwW cSwW kSwW
 have b_SwW:=FSwW.binds (ps:=["elder","copy","i","j"]) fun _ _ _ _ _ _ us hl=>match us,hl with | [_,_,_,_],_=>rfl
 have DSwW:Dfn K mg "swap_writes" sSwW fSwW _ ["elder","copy","i","j"]:=⟨FSwW,PySem.W.mg_of X G aSwW,b_SwW⟩
 have FSkL:=fun_mk (st:=sSkL) lSkL cSkL kSkL
 have b_SkL:=FSkL.binds (ps:=["elder","i"]) fun _ _ _ _ _ _ us hl=>match us,hl with | [_,_],_=>rfl
 have DSkL:Dfn K mg "skip_lengths" sSkL fSkL _ ["elder","i"]:=⟨FSkL,PySem.W.mg_of X G aSkL,b_SkL⟩
 have FWays:=fun_mk (st:=sWays) lWays cWays kWays
 have b_Ways:=FWays.binds (ps:=["elder","copy","i","j"]) fun _ _ _ _ _ _ us hl=>match us,hl with | [_,_,_,_],_=>rfl
 have DWays:Dfn K mg "knot_ways" sWays fWays _ ["elder","copy","i","j"]:=⟨FWays,PySem.W.mg_of X G aWays,b_Ways⟩
 have FEmp:=fun_mk (st:=sEmp) lEmp cEmp kEmp
 have b_Emp:=FEmp.binds (ps:=["elder","copy"]) fun _ _ _ _ _ _ us hl=>match us,hl with | [_,_],_=>rfl
 have DEmp:Dfn K mg "empty_table" sEmp fEmp _ ["elder","copy"]:=⟨FEmp,PySem.W.mg_of X G aEmp,b_Emp⟩
 have FTld:=fun_mk (st:=sTld) lTld cTld kTld
 have b_Tld:=FTld.binds (ps:=["table"]) fun _ _ _ _ _ _ us hl=>match us,hl with | [_],_=>rfl
 have DTld:Dfn K mg "table_told" sTld fTld _ ["table"]:=⟨FTld,PySem.W.mg_of X G aTld,b_Tld⟩
 have FPtab:=fun_mk (st:=sPtab) lPtab cPtab kPtab
 have b_Ptab:=FPtab.binds (ps:=["elder","copy","prices"]) fun _ _ _ _ _ _ us hl=>match us,hl with | [_,_,_],_=>rfl
 have DPtab:Dfn K mg "price_table" sPtab fPtab _ ["elder","copy","prices"]:=⟨FPtab,PySem.W.mg_of X G aPtab,b_Ptab⟩
 have FRtab:=fun_mk (st:=sRtab) lRtab cRtab kRtab
 have b_Rtab:=FRtab.binds (ps:=["elder","copy","prices"]) fun _ _ _ _ _ _ us hl=>match us,hl with | [_,_,_],_=>rfl
 have DRtab:Dfn K mg "rest_table" sRtab fRtab _ ["elder","copy","prices"]:=⟨FRtab,PySem.W.mg_of X G aRtab,b_Rtab⟩
 have FCW:=fun_mk (st:=sCW) lCW cCW kCW
 have b_CW:=FCW.binds (ps:=["elder","copy","prices","rest","i","j"]) fun _ _ _ _ _ _ us hl=>match us,hl with | [_,_,_,_,_,_],_=>rfl
 have DCW:Dfn K mg "cheapest_ways" sCW fCW _ ["elder","copy","prices","rest","i","j"]:=⟨FCW,PySem.W.mg_of X G aCW,b_CW⟩
 have FFC:=fun_mk (st:=sFC) lFC cFC kFC
 have b_FC:=FFC.binds (ps:=["elder","copy","prices"]) fun _ _ _ _ _ _ us hl=>match us,hl with | [_,_,_],_=>rfl
 have DFC:Dfn K mg "first_cheapest" sFC fFC _ ["elder","copy","prices"]:=⟨FFC,PySem.W.mg_of X G aFC,b_FC⟩
 have FLs:=fun_mk (st:=sLs) lLs cLs kLs
 have b_Ls:=FLs.binds (ps:=["elder","copy","prices"]) fun _ _ _ _ _ _ us hl=>match us,hl with | [_,_,_],_=>rfl
 have DLs:Dfn K mg "least_slips" sLs fLs _ ["elder","copy","prices"]:=⟨FLs,PySem.W.mg_of X G aLs,b_Ls⟩
 have FNet:=fun_mk (st:=sNet) lNet cNet kNet
 have b_Net:=FNet.binds (ps:=["elder","copy","prices"]) fun _ _ _ _ _ _ us hl=>match us,hl with | [_,_,_],_=>rfl
 have DNet:Dfn K mg "cheapest_net" sNet fNet _ ["elder","copy","prices"]:=⟨FNet,PySem.W.mg_of X G aNet,b_Net⟩
 have FMT:=fun_mk (st:=sMT) lMT cMT kMT
 have b_MT:=FMT.binds (ps:=["net"]) fun _ _ _ _ _ _ us hl=>match us,hl with | [_],_=>rfl
 have DMT:Dfn K mg "many_to" sMT fMT _ ["net"]:=⟨FMT,PySem.W.mg_of X G aMT,b_MT⟩
 have FMF:=fun_mk (st:=sMF) lMF cMF kMF
 have b_MF:=FMF.binds (ps:=["net"]) fun _ _ _ _ _ _ us hl=>match us,hl with | [_],_=>rfl
 have DMF:Dfn K mg "many_from" sMF fMF _ ["net"]:=⟨FMF,PySem.W.mg_of X G aMF,b_MF⟩
 have FCM:=fun_mk (st:=sCM) lCM cCM kCM
 have b_CM:=FCM.binds (ps:=["elder","copy","prices"]) fun _ _ _ _ _ _ us hl=>match us,hl with | [_,_,_],_=>rfl
 have DCM:Dfn K mg "cheapest_many" sCM fCM _ ["elder","copy","prices"]:=⟨FCM,PySem.W.mg_of X G aCM,b_CM⟩
 have FSure:=fun_mk (st:=sSure) lSure cSure kSure
 have b_Sure:=FSure.binds (ps:=["elder","copy","prices"]) fun _ _ _ _ _ _ us hl=>match us,hl with | [_,_,_],_=>rfl
 have DSure:Dfn K mg "sure_pairs" sSure fSure _ ["elder","copy","prices"]:=⟨FSure,PySem.W.mg_of X G aSure,b_Sure⟩
 have FCell:=fun_mk (st:=sCell) lCell cCell kCell
 have b_Cell:=FCell.binds (ps:=["script","k"]) fun _ _ _ _ _ _ us hl=>match us,hl with | [_,_],_=>rfl
 have DCell:Dfn K mg "_law_cell_at" sCell fCell _ ["script","k"]:=⟨FCell,PySem.W.mg_of X G aCell,b_Cell⟩
 have FStir:=fun_mk (st:=sStir) lStir cStir kStir
 have b_Stir:=FStir.binds (ps:=["cell"]) fun _ _ _ _ _ _ us hl=>match us,hl with | [_],_=>rfl
 have DStir:Dfn K mg "_law_stir" sStir fStir _ ["cell"]:=⟨FStir,PySem.W.mg_of X G aStir,b_Stir⟩
 have FNext:=fun_mk (st:=sNext) lNext cNext kNext
 have b_Next:=FNext.binds (ps:=["left"]) fun _ _ _ _ _ _ us hl=>match us,hl with | [_],_=>rfl
 have DNext:Dfn K mg "_law_next" sNext fNext _ ["left"]:=⟨FNext,PySem.W.mg_of X G aNext,b_Next⟩
 have FSame:=fun_mk (st:=sSame) lSame cSame kSame
 have b_Same:=FSame.binds (ps:=["found","due"]) fun _ _ _ _ _ _ us hl=>match us,hl with | [_,_],_=>rfl
 have DSame:Dfn K mg "_law_same" sSame fSame _ ["found","due"]:=⟨FSame,PySem.W.mg_of X G aSame,b_Same⟩
 have FWord:=fun_mk (st:=sWord) lWord cWord kWord
 have b_Word:=FWord.binds (ps:=["seed","code"]) fun _ _ _ _ _ _ us hl=>match us,hl with | [_,_],_=>rfl
 have DWord:Dfn K mg "_law_word" sWord fWord _ ["seed","code"]:=⟨FWord,PySem.W.mg_of X G aWord,b_Word⟩
 have FPrices:=fun_mk (st:=sPrices) lPrices cPrices kPrices
 have b_Prices:=FPrices.binds (ps:=["cell"]) fun _ _ _ _ _ _ us hl=>match us,hl with | [_],_=>rfl
 have DPrices:Dfn K mg "_law_prices" sPrices fPrices _ ["cell"]:=⟨FPrices,PySem.W.mg_of X G aPrices,b_Prices⟩
 have FEye:=fun_mk (st:=sEye) lEye cEye kEye
 have b_Eye:=FEye.binds (ps:=["elder","left","seed","most"]) fun _ _ _ _ _ _ us hl=>match us,hl with | [_,_,_,_],_=>rfl
 have DEye:Dfn K mg "_law_eye" sEye fEye _ ["elder","left","seed","most"]:=⟨FEye,PySem.W.mg_of X G aEye,b_Eye⟩
 have FSlip:=fun_mk (st:=sSlip) lSlip cSlip kSlip
 have b_Slip:=FSlip.binds (ps:=["elder","copy","steps","left","words"]) fun _ _ _ _ _ _ us hl=>match us,hl with | [_,_,_,_,_],_=>rfl
 have DSlip:Dfn K mg "_law_slip" sSlip fSlip _ ["elder","copy","steps","left","words"]:=⟨FSlip,PySem.W.mg_of X G aSlip,b_Slip⟩
 have FPair:=fun_mk (st:=sPair) lPair cPair kPair
 have b_Pair:=FPair.binds (ps:=["cells","seed","most"]) fun _ _ _ _ _ _ us hl=>match us,hl with | [_,_,_],_=>rfl
 have DPair:Dfn K mg "_law_pair" sPair fPair _ ["cells","seed","most"]:=⟨FPair,PySem.W.mg_of X G aPair,b_Pair⟩
 have FPairs:=fun_mk (st:=sPairs) lPairs cPairs kPairs
 have b_Pairs:=FPairs.binds (ps:=["script","many"]) fun _ _ _ _ _ _ us hl=>match us,hl with | [_,_],_=>rfl
 have DPairs:Dfn K mg "_law_pairs" sPairs fPairs _ ["script","many"]:=⟨FPairs,PySem.W.mg_of X G aPairs,b_Pairs⟩
 have FLSteps:=fun_mk (st:=sLSteps) lLSteps cLSteps kLSteps
 have b_LSteps:=FLSteps.binds (ps:=["elder","copy","i","j"]) fun _ _ _ _ _ _ us hl=>match us,hl with | [_,_,_,_],_=>rfl
 have DLSteps:Dfn K mg "_law_steps" sLSteps fLSteps _ ["elder","copy","i","j"]:=⟨FLSteps,PySem.W.mg_of X G aLSteps,b_LSteps⟩
 have FLAlk:=fun_mk (st:=sLAlk) lLAlk cLAlk kLAlk
 have b_LAlk:=FLAlk.binds (ps:=["one","two"]) fun _ _ _ _ _ _ us hl=>match us,hl with | [_,_],_=>rfl
 have DLAlk:Dfn K mg "_law_alike" sLAlk fLAlk _ ["one","two"]:=⟨FLAlk,PySem.W.mg_of X G aLAlk,b_LAlk⟩
 have FLPrice:=fun_mk (st:=sLPrice) lLPrice cLPrice kLPrice
 have b_LPrice:=FLPrice.binds (ps:=["elder","i","step","prices"]) fun _ _ _ _ _ _ us hl=>match us,hl with | [_,_,_,_],_=>rfl
 have DLPrice:Dfn K mg "_law_price" sLPrice fLPrice _ ["elder","i","step","prices"]:=⟨FLPrice,PySem.W.mg_of X G aLPrice,b_LPrice⟩
 have FEnd:=fun_mk (st:=sEnd) lEnd cEnd kEnd
 have b_End:=FEnd.binds (ps:=["i","j","step"]) fun _ _ _ _ _ _ us hl=>match us,hl with | [_,_,_],_=>rfl
 have DEnd:Dfn K mg "_law_end" sEnd fEnd _ ["i","j","step"]:=⟨FEnd,PySem.W.mg_of X G aEnd,b_End⟩
 have FArms:=fun_mk (st:=sArms) lArms cArms kArms
 have b_Arms:=FArms.binds (ps:=["elder","copy","prices","i","j"]) fun _ _ _ _ _ _ us hl=>match us,hl with | [_,_,_,_,_],_=>rfl
 have DArms:Dfn K mg "_law_arms" sArms fArms _ ["elder","copy","prices","i","j"]:=⟨FArms,PySem.W.mg_of X G aArms,b_Arms⟩
 have FKnots:=fun_mk (st:=sKnots) lKnots cKnots kKnots
 have b_Knots:=FKnots.binds (ps:=["elder","copy"]) fun _ _ _ _ _ _ us hl=>match us,hl with | [_,_],_=>rfl
 have DKnots:Dfn K mg "_law_knots" sKnots fKnots _ ["elder","copy"]:=⟨FKnots,PySem.W.mg_of X G aKnots,b_Knots⟩
 have FARows:=fun_mk (st:=sARows) lARows cARows kARows
 have b_ARows:=FARows.binds (ps:=["elder","copy","prices"]) fun _ _ _ _ _ _ us hl=>match us,hl with | [_,_,_],_=>rfl
 have DARows:Dfn K mg "_law_all_rows" sARows fARows _ ["elder","copy","prices"]:=⟨FARows,PySem.W.mg_of X G aARows,b_ARows⟩
 have FInAll:=fun_mk (st:=sInAll) lInAll cInAll kInAll
 have b_InAll:=FInAll.binds (ps:=["rows"]) fun _ _ _ _ _ _ us hl=>match us,hl with | [_],_=>rfl
 have DInAll:Dfn K mg "_law_in_all" sInAll fInAll _ ["rows"]:=⟨FInAll,PySem.W.mg_of X G aInAll,b_InAll⟩
 have FLaw:=fun_mk (st:=sLaw) lLaw cLaw kLaw
 have mLIKE:=PySem.W.mg_of X G gLIKE
 have mPRICE_PLACES:=PySem.W.mg_of X G gPRICE_PLACES
 have mSTART:=PySem.W.mg_of X G gSTART
 have mlen:=PySem.W.mg_none_of X G blen
 have mrange:=PySem.W.mg_none_of X G brange
 have misinstance:=PySem.W.mg_none_of X G bisinstance
 have mtuple:=PySem.W.mg_none_of X G btuple
 have mstr:=PySem.W.mg_none_of X G bstr
 have mint:=PySem.W.mg_none_of X G bint
 have mbool:=PySem.W.mg_none_of X G bbool
 have mmax:=PySem.W.mg_none_of X G bmax
 have mmin:=PySem.W.mg_none_of X G bmin
 have mall:=PySem.W.mg_none_of X G ball
 have mreversed:=PySem.W.mg_none_of X G breversed
 have mlist:=PySem.W.mg_none_of X G blist
 have msum:=PySem.W.mg_none_of X G bsum
 have msorted:=PySem.W.mg_none_of X G bsorted
 exact ⟨PySem.W.fnOf "law" "law" (defArgs sLaw) (defBody sLaw) (defScope sLaw) .none kVLaw dcLaw pmLaw anLaw cdLaw ctLaw,fun s v=>.of_eq rfl,fun base _ _=>ok_law FLaw DLooks DPrice DSwW DSkL DWays DEmp DTld DPtab DRtab DCW DFC DLs DNet DMT DMF DCM DSure DCell DStir DNext DSame DWord DPrices DEye DSlip DPair DPairs DLSteps DLAlk DLPrice DEnd DArms DKnots DARows DInAll mlen mrange misinstance mtuple mstr mint mbool mmax mmin mall mreversed mlist msum msorted mLIKE mPRICE_PLACES ⟨dl,dk,⟨_,d1⟩,⟨_,d2⟩,⟨_,d3⟩,⟨_,d4⟩,⟨_,d5⟩,⟨_,d6⟩⟩ mSTART (sqT_modI tS) ⟨j1,j2,j3,i6⟩⟩
theorem walk {l:PySem.W.OpenLaw} {q:Program} {loose:List Str} {XP:(Str->Option Value)->Heap->Prop} {YP:World->Heap->Prop} {d:DefRec} {K:Params->PySem.W.Frag} (hn:l.most=some 63) (hdf:d.params.defaults=[])
  (hY:∀ (w:World) (h:Heap),YP w h->(K w.params).In h)
  (F:∀ (w:World) (mg:Str->Option Value) (fa:Addr) (h:Heap),(K w.params).In h->h.Ns mainGlobals mg->mg d.name=some (.ref fa) →
   ∃ fd:FuncData,(∀ (s:Shared) (u:Value),BindsTo s fd ⟨[u],[]⟩ [("script",u)])/\∀ base:Heap,(K w.params).In base->base.Ns mainGlobals mg->FnOk l.prog w (K w.params) mg base CX0 6 fa fd ["script"] (spLaw (K w.params))) :
  PySem.W.WalkO q loose XP YP l.row.toRowW d [] (fun f vs=>PySem.call f vs):=
 L3.walk_ofB (n:=63) (k:=6) (x := "script") (CX:=fun _=>CX0) (sp:=fun w=>spLaw (K w.params)) hn (by decide) hdf ⟨rfl,by decide,by decide⟩ hY F (fun _ _ a ns hl hb _ hS=>⟨a,ns,rfl,hS,hl,hb,fun _=>rfl⟩) fun _ _ _ _ _ z=>z
end K15
open PySem PySem.W PyProof.Rows
set_option maxRecDepth 100000 in
set_option maxHeartbeats 0 in
theorem PySem.Challenge.cw_vellum_k15_whole_small_rows_gone_through_holds : PySem.Challenge.rw_vellum_k15_whole_small_rows_gone_through.Holds := by
 w_on
 refine holds_law K15.said0 fun said=>?_
 refine holds_open (q:=K15.view) (loose:=[Str.ofString "looks_alike",Str.ofString "LIKE",Str.ofString "PRICE_PLACES",Str.ofString "step_price",Str.ofString "swap_writes",Str.ofString "skip_lengths",Str.ofString "knot_ways",Str.ofString "empty_table",Str.ofString "table_told",Str.ofString "price_table",Str.ofString "rest_table",Str.ofString "START",Str.ofString "cheapest_ways",Str.ofString "first_cheapest",Str.ofString "least_slips",Str.ofString "cheapest_net",Str.ofString "many_to",Str.ofString "many_from",Str.ofString "cheapest_many",Str.ofString "sure_pairs",Str.ofString "_law_cell_at",Str.ofString "_law_stir",Str.ofString "_law_next",Str.ofString "_law_same",Str.ofString "_law_word",Str.ofString "_law_prices",Str.ofString "_law_eye",Str.ofString "_law_slip",Str.ofString "_law_pair",Str.ofString "_law_pairs",Str.ofString "_law_steps",Str.ofString "_law_alike",Str.ofString "_law_price",Str.ofString "_law_end",Str.ofString "_law_arms",Str.ofString "_law_knots",Str.ofString "_law_all_rows",Str.ofString "_law_in_all"]) (Xt:=(fun s=>PySem.W.xlAt K15.view [] s && PySem.W.recOk (PySem.W.RowW.records (PySem.W.OpenRow.toRowW PySem.Challenge.rw_vellum_k15_whole_small_rows_gone_through.row)) s)) (XP:=XL K15.view [])
  (YP:=Hook.says (PySem.W.kHook K15.hp K15.ad K15.ad_hp)) (N:=2738)
  K15.left (Hook.of _) (Hook.keeps _) (fun s e=>xl_of s (Bool.and_eq_true_iff.mp e).1)
  XL.keeps rfl rfl rfl
  (fun s e=>recFacts_of (Bool.and_eq_true_iff.mp e).2) rfl said
  (by decide +kernel)
  ⟨rfl,rfl,rfl,rfl,rfl,by decide +kernel⟩ ?hw ?hc
 case hw=>w_witness2
 k_fill
 refine K15.walk (l:=PySem.Challenge.rw_vellum_k15_whole_small_rows_gone_through) rfl rfl (fun w h Y=>PySem.W.kIn_of Y) ?F
 case F=>
  intro w mg fa h KX G hmg
  refine' K15.all_mk KX G hmg ?aLooks ?lLooks ?cLooks ?kLooks ?aPrice ?lPrice ?cPrice ?kPrice ?aSwW ?lSwW ?cSwW ?kSwW ?aSkL ?lSkL ?cSkL ?kSkL ?aWays ?lWays ?cWays ?kWays ?aEmp ?lEmp ?cEmp ?kEmp ?aTld ?lTld ?cTld ?kTld ?aPtab ?lPtab ?cPtab ?kPtab ?aRtab ?lRtab ?cRtab ?kRtab ?aCW ?lCW ?cCW ?kCW ?aFC ?lFC ?cFC ?kFC ?aLs ?lLs ?cLs ?kLs ?aNet ?lNet ?cNet ?kNet ?aMT ?lMT ?cMT ?kMT ?aMF ?lMF ?cMF ?kMF ?aCM ?lCM ?cCM ?kCM ?aSure ?lSure ?cSure ?kSure ?aCell ?lCell ?cCell ?kCell ?aStir ?lStir ?cStir ?kStir ?aNext ?lNext ?cNext ?kNext ?aSame ?lSame ?cSame ?kSame ?aWord ?lWord ?cWord ?kWord ?aPrices ?lPrices ?cPrices ?kPrices ?aEye ?lEye ?cEye ?kEye ?aSlip ?lSlip ?cSlip ?kSlip ?aPair ?lPair ?cPair ?kPair ?aPairs ?lPairs ?cPairs ?kPairs ?aLSteps ?lLSteps ?cLSteps ?kLSteps ?aLAlk ?lLAlk ?cLAlk ?kLAlk ?aLPrice ?lLPrice ?cLPrice ?kLPrice ?aEnd ?lEnd ?cEnd ?kEnd ?aArms ?lArms ?cArms ?kArms ?aKnots ?lKnots ?cKnots ?kKnots ?aARows ?lARows ?cARows ?kARows ?aInAll ?lInAll ?cInAll ?kInAll ?aLaw ?lLaw ?cLaw ?kLaw ?gLIKE ?gPRICE_PLACES ?gSTART ?blen ?brange ?bisinstance ?btuple ?bstr ?bint ?bbool ?bmax ?bmin ?ball ?breversed ?blist ?bsum ?bsorted ?dl ?dk ?d1 ?d2 ?d3 ?d4 ?d5 ?d6 ?tS ?j1 ?j2 ?j3 ?i6
  (case aLooks=>k_is)
  (case lLooks=>k_is)
  (case cLooks=>k_is)
  (case kLooks=>k_is)
  (case aPrice=>k_is)
  (case lPrice=>k_is)
  (case cPrice=>k_is)
  (case kPrice=>k_is)
  (case aSwW=>k_is)
  (case lSwW=>k_is)
  (case cSwW=>k_is)
  (case kSwW=>k_is)
  (case aSkL=>k_is)
  (case lSkL=>k_is)
  (case cSkL=>k_is)
  (case kSkL=>k_is)
  (case aWays=>k_is)
  (case lWays=>k_is)
  (case cWays=>k_is)
  (case kWays=>k_is)
  (case aEmp=>k_is)
  (case lEmp=>k_is)
  (case cEmp=>k_is)
  (case kEmp=>k_is)
  (case aTld=>k_is)
  (case lTld=>k_is)
  (case cTld=>k_is)
  (case kTld=>k_is)
  (case aPtab=>k_is)
  (case lPtab=>k_is)
  (case cPtab=>k_is)
  (case kPtab=>k_is)
  (case aRtab=>k_is)
  (case lRtab=>k_is)
  (case cRtab=>k_is)
  (case kRtab=>k_is)
  (case aCW=>k_is)
  (case lCW=>k_is)
  (case cCW=>k_is)
  (case kCW=>k_is)
  (case aFC=>k_is)
  (case lFC=>k_is)
  (case cFC=>k_is)
  (case kFC=>k_is)
  (case aLs=>k_is)
  (case lLs=>k_is)
  (case cLs=>k_is)
  (case kLs=>k_is)
  (case aNet=>k_is)
  (case lNet=>k_is)
  (case cNet=>k_is)
  (case kNet=>k_is)
  (case aMT=>k_is)
  (case lMT=>k_is)
  (case cMT=>k_is)
  (case kMT=>k_is)
  (case aMF=>k_is)
  (case lMF=>k_is)
  (case cMF=>k_is)
  (case kMF=>k_is)
  (case aCM=>k_is)
  (case lCM=>k_is)
  (case cCM=>k_is)
  (case kCM=>k_is)
  (case aSure=>k_is)
  (case lSure=>k_is)
  (case cSure=>k_is)
  (case kSure=>k_is)
  (case aCell=>k_is)
  (case lCell=>k_is)
  (case cCell=>k_is)
  (case kCell=>k_is)
  (case aStir=>k_is)
  (case lStir=>k_is)
  (case cStir=>k_is)
  (case kStir=>k_is)
  (case aNext=>k_is)
  (case lNext=>k_is)
  (case cNext=>k_is)
  (case kNext=>k_is)
  (case aSame=>k_is)
  (case lSame=>k_is)
  (case cSame=>k_is)
  (case kSame=>k_is)
  (case aWord=>k_is)
  (case lWord=>k_is)
  (case cWord=>k_is)
  (case kWord=>k_is)
  (case aPrices=>k_is)
  (case lPrices=>k_is)
  (case cPrices=>k_is)
  (case kPrices=>k_is)
  (case aEye=>k_is)
  (case lEye=>k_is)
  (case cEye=>k_is)
  (case kEye=>k_is)
  (case aSlip=>k_is)
  (case lSlip=>k_is)
  (case cSlip=>k_is)
  (case kSlip=>k_is)
  (case aPair=>k_is)
  (case lPair=>k_is)
  (case cPair=>k_is)
  (case kPair=>k_is)
  (case aPairs=>k_is)
  (case lPairs=>k_is)
  (case cPairs=>k_is)
  (case kPairs=>k_is)
  (case aLSteps=>k_is)
  (case lLSteps=>k_is)
  (case cLSteps=>k_is)
  (case kLSteps=>k_is)
  (case aLAlk=>k_is)
  (case lLAlk=>k_is)
  (case cLAlk=>k_is)
  (case kLAlk=>k_is)
  (case aLPrice=>k_is)
  (case lLPrice=>k_is)
  (case cLPrice=>k_is)
  (case kLPrice=>k_is)
  (case aEnd=>k_is)
  (case lEnd=>k_is)
  (case cEnd=>k_is)
  (case kEnd=>k_is)
  (case aArms=>k_is)
  (case lArms=>k_is)
  (case cArms=>k_is)
  (case kArms=>k_is)
  (case aKnots=>k_is)
  (case lKnots=>k_is)
  (case cKnots=>k_is)
  (case kKnots=>k_is)
  (case aARows=>k_is)
  (case lARows=>k_is)
  (case cARows=>k_is)
  (case kARows=>k_is)
  (case aInAll=>k_is)
  (case lInAll=>k_is)
  (case cInAll=>k_is)
  (case kInAll=>k_is)
  (case aLaw=>k_is)
  (case lLaw=>k_is)
  (case cLaw=>k_is)
  (case kLaw=>k_is)
  (case gLIKE=>k_is)
  (case gPRICE_PLACES=>k_is)
  (case gSTART=>k_is)
  (case blen=>k_is)
  (case brange=>k_is)
  (case bisinstance=>k_is)
  (case btuple=>k_is)
  (case bstr=>k_is)
  (case bint=>k_is)
  (case bbool=>k_is)
  (case bmax=>k_is)
  (case bmin=>k_is)
  (case ball=>k_is)
  (case breversed=>k_is)
  (case blist=>k_is)
  (case bsum=>k_is)
  (case bsorted=>k_is)
  (case dl=>k_is)
  (case dk=>k_keys)
  (case d1=>k_is)
  (case d2=>k_is)
  (case d3=>k_is)
  (case d4=>k_is)
  (case d5=>k_is)
  (case d6=>k_is)
  (case tS=>k_is)
  (case j1=>kit_is)
  (case j2=>kit_is)
  (case j3=>kit_is)
  (case i6=>kit_is)
