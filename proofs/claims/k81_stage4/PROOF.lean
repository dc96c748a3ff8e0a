import PyProof.Rows.All
import Wide.All
import OpenK.AllK
import Wide.FinOn
import Lean
import KE.KIntText
import KE.KRevIter
import PyProof.StrLawsTight
import PyProof.StrLawsChain
import PyProof.Rows.CatFin
import PyProof.CollectIter
import PyProof.JoinWalk
import PyProof.Rows.StrDigitsNeg
import PyProof.Rows.StrJoinMade
import PyProof.Rows.StrBin
import PyProof.EqAt
import PyProof.EqKinds
import PyProof.TupleCall
import PyProof.P3Eq
import PyProof.NeData
import PySem.Challenge.RW_sampleyard_k81_things_written
set_option Elab.async false
set_option linter.all false
set_option maxRecDepth 100000
noncomputable section
theorem Hd.said:PySem.W.OpenLaw.wellSaid PySem.Challenge.rw_sampleyard_k81_things_written=true:=by kernel_rfl
namespace L2
open PySem
def inClass(s:Stmt)(j:Nat):Stmt:=match s with
 | .ClassDef _ _ _ body _ _ _ _ _ _ _=>body.getD j (.Pass ⟨0,0,0,0⟩)
 | _=>.Pass ⟨0,0,0,0⟩
def ZdU(s:Stmt):Arguments:=match s with
 | .FunctionDef _ a _ _ _ _ _ _ _ _=>a
 | _=>{ posonlyargs:=[],args:=[],vararg:=none,kwonlyargs:=[],kw_defaults:=[],kwarg:=none,defaults:=[] }
def ZbS(s:Stmt):List Stmt:=match s with
 | .FunctionDef _ _ b _ _ _ _ _ _ _=>b
 | _=>[]
def Zaf(s:Stmt):Scope:=match s with
 | .FunctionDef _ _ _ _ _ _ sc _ _ _=>sc
 | _=>{ kind:=.function,names:=[],isGenerator:=false,isCoroutine:=false }
end L2
namespace Hd
open PySem PySem.W L2
abbrev top(i:Nat):Stmt:=PySem.Challenge.pw_sampleyard_k81_things_written.main.body.getD i (.Pass ⟨0,0,0,0⟩)
def view:Program:={ PySem.Challenge.pw_sampleyard_k81_things_written with main:={ PySem.Challenge.pw_sampleyard_k81_things_written.main with body:=[top 0,top 2,top 3,top 4,top 5,top 6,top 8,top 9,top 11,top 13,top 14,top 15,top 16,top 17,top 19,top 21,top 22,top 23,top 25,top 26,top 27,top 28,top 29,top 30,top 31,top 32,top 34,top 35,top 36,top 37,top 38,top 39,top 40,top 41,top 42,top 43,top 44,top 45,top 46,top 47,top 48,top 49,top 50,top 52,top 53,top 54,top 55,top 56,top 57,top 58,top 59,top 60,top 61,top 62,top 63,top 64,top 65] } }
abbrev S(x:String):Str:=Str.ofString x
abbrev st(x:String)(t:Nat):Value:=.str (Str.ofString x) t
abbrev en(P:Params)(x:String)(t:Nat)(v:Value):DictEntry:=⟨PyData.keyHash P (Str.ofString x),.str (Str.ofString x) t,v⟩
abbrev fd(s:Stmt)(n q:String)(an:Option Addr)(d k c e m t:Value):Data:=.func { name:=Str.ofString n,qualname:=Str.ofString q,params:=ZdU s,body:=.stmts (ZbS s),scope:=Zaf s,globals:=mainGlobals,closure:=[],defaults:=d,kwdefaults:=k,doc:=e,pyModule:=m,annotations:=an,code:=c,closureTuple:=t,builtins:=builtinsNs }
abbrev T(xs:Array Value):Obj:=⟨.type "tuple", none,.seq xs 0,#[]⟩
abbrev F(s:Stmt)(n q:String)(an:Option Addr)(d k c e m t:Value):Obj:=⟨.type "function", none,fd s n q an d k c e m t,#[]⟩
abbrev G(i:Nat)(n:String)(c:Nat)(m:String)(t:Nat):Obj:=F (top i) n n none .none .none (.ref c) .none (st m t) .none
abbrev D(es:List DictEntry)(n:Nat):Obj:=⟨.type "dict", none,.dict (List.toArray es) n,#[]⟩
abbrev C(n:String)(a:Nat)(q:String)(b c:Nat)(d e f g h:Int)(i:Value)(j:Bool)(k:Int)(l m o p r:Value)(s t:Int)(u:Nat):Obj:=⟨.type "code", none,.fields #[st n a,st q b,st "/claim/cut.py" c,.int d 0,.int e 0,.int f 0,.int g 0,.int h 0,i,.bool j,.int k 0,l,m,o,p,r,.int s 0,.int t 0,st "/claim/cut.py" u],#[]⟩
abbrev B(n:String)(a b c:Nat)(d e:Int)(i l o p r:Nat)(s:Int)(u:Nat):Obj:=C n a n b c d e 0 0 3 (.ref i) true 181 (.ref l) .none (.ref o) (.ref p) (.ref r) s d u
abbrev E(n:String)(a b c:Nat)(d e:Int)(i l r:Nat)(s:Int)(u:Nat):Obj:=C n a n b c d e 0 0 3 (.ref i) true 181 (.ref l) .none .none .none (.ref r) s d u
abbrev L(n:String)(b m:List Value)(a:Addr)(s:List Value)(sl:Array (Option Value)):Obj:=⟨.type "type", none,.cls { name:=Str.ofString n,bases:=b,mro:=m,ns:=a,qualname:=Str.ofString n,hasDict:=true,slotNames:=[],subclasses:=s,abstract:=false,collection:=none,hasDel:=false },sl⟩
def heap:Params→Frag:=fun P =>
  (nat_lit 2,⟨.none,none,(.dict (List.toArray []) 0),#[]⟩)::
(nat_lit 3,(D [(en P "__name__" 165 (st "law_sampleyard_k81_things_written" 753)),(en P "__doc__" 166 .none),(en P "__package__" 167 .none),(en P "__loader__" 168 (.builtin "__main__.__loader__#opaque")),(en P "__spec__" 169 .none),(en P "__annotations__" 170 (.ref 6)),(en P "__builtins__" 171 (.ref 4)),(en P "__file__" 173 (st "/claim/cut.py" 172)),(en P "__cached__" 174 .none),(en P "_wall" 193 (.ref 21)),(en P "YardError" 213 (.ref 31)),(en P "BadTriangle" 229 (.ref 44)),(en P "BadThing" 245 (.ref 56)),(en P "BadPattern" 261 (.ref 68)),(en P "NoRow" 286 (.ref 87)),(en P "is_whole" 295 (.ref 96)),(en P "greatest_divisor" 306 (.ref 103)),(en P "is_fraction" 315 (.ref 110)),(en P "MOST_VALUES" 319 (.int (3) 318)),(en P "check_triangle" 327 (.ref 117)),(en P "is_corner" 333 (.ref 122)),(en P "are_values" 339 (.ref 127)),(en P "numbers_of" 346 (.ref 134)),(en P "check_before_eye" 356 (.ref 141)),(en P "COUNTS" 364 (.ref 142)),(en P "check_pattern" 370 (.ref 147)),(en P "copied" 376 (.ref 152)),(en P "Thing" 414 (.ref 176)),(en P "Plain" 463 (.ref 218)),(en P "Shaded" 510 (.ref 258)),(en P "Patterned" 559 (.ref 298)),(en P "Glass" 617 (.ref 345)),(en P "check_values" 625 (.ref 354)),(en P "check_colour" 632 (.ref 361)),(en P "check_part" 639 (.ref 368)),(en P "FIGURES" 643 (st "0123456789" 642)),(en P "MOST_FIGURES" 645 (.int (30) 644)),(en P "number_word" 654 (.ref 375)),(en P "fraction_word" 661 (.ref 382)),(en P "read_number" 669 (.ref 389)),(en P "are_figures" 675 (.ref 394)),(en P "read_fraction" 684 (.ref 401)),(en P "thing_text" 690 (.ref 406)),(en P "head_words" 698 (.ref 413)),(en P "pattern_word" 704 (.ref 418)),(en P "corner_text" 710 (.ref 423)),(en P "read_thing" 716 (.ref 428)),(en P "check_text" 723 (.ref 435)),(en P "groups_of" 732 (.ref 442)),(en P "read_corner" 738 (.ref 447)),(en P "thing_of" 746 (.ref 454)),(en P "read_pattern" 752 (.ref 459)),(en P "_law_divisor" 762 (.ref 466)),(en P "_law_mixed" 771 (.ref 473)),(en P "_law_number" 780 (.ref 480)),(en P "_law_far" 790 (.ref 487)),(en P "_law_fraction" 802 (.ref 494)),(en P "_law_part" 812 (.ref 501)),(en P "_law_corner" 818 (.ref 506)),(en P "_law_pattern" 824 (.ref 511)),(en P "_law_word" 831 (.ref 518)),(en P "_law_row" 837 (.ref 523)),(en P "_law_kinds" 844 (.ref 530)),(en P "_law_alike" 850 (.ref 535)),(en P "_law_right" 865 (.ref 542)),(en P "law" 871 (.ref 547))] 66))::
(nat_lit 20,(B "_wall" 187 188 189 1 1 15 16 17 18 19 191 192))::
(nat_lit 21,(G 0 "_wall" 20 "__main__" 164))::
(nat_lit 22,(T #[(.type "ValueError")]))::
(nat_lit 30,(D [(en P "__module__" 203 (st "sampleyard.errors" 194)),(en P "__firstlineno__" 207 (.int (5) 206)),(en P "__static_attributes__" 208 (.ref 29)),(en P "__weakref__" 210 (.ref 32)),(en P "__doc__" 211 .none)] 3))::
(nat_lit 31,(L "YardError" [(.type "ValueError")] [(.ref 31),(.type "ValueError"),(.type "Exception"),(.type "BaseException"),(.type "object")] 30 [(.ref 44),(.ref 56),(.ref 68),(.ref 87)] #[(some (.ref 22)),none,(some (st "YardError" 196)),(some (st "YardError" 204)),(some (.builtin "ValueError.__new__")),(some (.bool true))]))::
(nat_lit 32,⟨(.type "getset_descriptor"),none,(.fields #[(st "__weakref__" 209),(.ref 31),(.builtin "ExceptionGroup.__weakref__"),.none]),#[]⟩)::
(nat_lit 35,(T #[(.ref 31)]))::
(nat_lit 43,(D [(en P "__module__" 221 (st "sampleyard.errors" 194)),(en P "__firstlineno__" 225 (.int (7) 224)),(en P "__static_attributes__" 226 (.ref 42)),(en P "__doc__" 227 .none)] 2))::
(nat_lit 44,(L "BadTriangle" [(.ref 31)] [(.ref 44),(.ref 31),(.type "ValueError"),(.type "Exception"),(.type "BaseException"),(.type "object")] 43 [] #[(some (.ref 35)),none,(some (st "BadTriangle" 214)),(some (st "BadTriangle" 222)),(some (.builtin "ValueError.__new__")),(some (.bool true))]))::
(nat_lit 47,(T #[(.ref 31)]))::
(nat_lit 55,(D [(en P "__module__" 237 (st "sampleyard.errors" 194)),(en P "__firstlineno__" 241 (.int (9) 240)),(en P "__static_attributes__" 242 (.ref 54)),(en P "__doc__" 243 .none)] 2))::
(nat_lit 56,(L "BadThing" [(.ref 31)] [(.ref 56),(.ref 31),(.type "ValueError"),(.type "Exception"),(.type "BaseException"),(.type "object")] 55 [] #[(some (.ref 47)),none,(some (st "BadThing" 230)),(some (st "BadThing" 238)),(some (.builtin "ValueError.__new__")),(some (.bool true))]))::
(nat_lit 59,(T #[(.ref 31)]))::
(nat_lit 67,(D [(en P "__module__" 253 (st "sampleyard.errors" 194)),(en P "__firstlineno__" 257 (.int (11) 256)),(en P "__static_attributes__" 258 (.ref 66)),(en P "__doc__" 259 .none)] 2))::
(nat_lit 68,(L "BadPattern" [(.ref 31)] [(.ref 68),(.ref 31),(.type "ValueError"),(.type "Exception"),(.type "BaseException"),(.type "object")] 67 [] #[(some (.ref 59)),none,(some (st "BadPattern" 246)),(some (st "BadPattern" 254)),(some (.builtin "ValueError.__new__")),(some (.bool true))]))::
(nat_lit 71,(T #[(.ref 31)]))::
(nat_lit 83,(C "__init__" 274 "NoRow.__init__" 275 276 15 2 0 0 3 (.ref 78) true 181 (.ref 79) .none (.ref 80) (.ref 81) (.ref 82) 279 15 280))::
(nat_lit 84,(F (inClass (top 6) 0) "__init__" "NoRow.__init__" none .none .none (.ref 83) .none (st "sampleyard.errors" 194) .none))::
(nat_lit 86,(D [(en P "__module__" 269 (st "sampleyard.errors" 194)),(en P "__firstlineno__" 273 (.int (13) 272)),(en P "__init__" 281 (.ref 84)),(en P "__static_attributes__" 283 (.ref 85)),(en P "__doc__" 284 .none)] 2))::
(nat_lit 87,(L "NoRow" [(.ref 31)] [(.ref 87),(.ref 31),(.type "ValueError"),(.type "Exception"),(.type "BaseException"),(.type "object")] 86 [] #[(some (.ref 71)),none,(some (st "NoRow" 262)),(some (st "NoRow" 270)),(some (.builtin "ValueError.__new__")),(some (.bool true))]))::
(nat_lit 95,(B "is_whole" 289 290 291 18 1 90 91 92 93 94 293 294))::
(nat_lit 96,(G 8 "is_whole" 95 "sampleyard.whole" 287))::
(nat_lit 102,(B "greatest_divisor" 296 297 298 20 1 97 98 99 100 101 304 305))::
(nat_lit 103,(G 9 "greatest_divisor" 102 "sampleyard.whole" 287))::
(nat_lit 109,(B "is_fraction" 309 310 311 30 1 104 105 106 107 108 313 314))::
(nat_lit 110,(G 11 "is_fraction" 109 "sampleyard.fractions" 307))::
(nat_lit 116,(B "check_triangle" 320 321 322 38 1 111 112 113 114 115 325 326))::
(nat_lit 117,(G 14 "check_triangle" 116 "sampleyard.corners" 316))::
(nat_lit 121,(E "is_corner" 328 329 330 46 1 118 119 120 331 332))::
(nat_lit 122,(G 15 "is_corner" 121 "sampleyard.corners" 316))::
(nat_lit 126,(E "are_values" 334 335 336 52 1 123 124 125 337 338))::
(nat_lit 127,(G 16 "are_values" 126 "sampleyard.corners" 316))::
(nat_lit 133,(B "numbers_of" 340 341 342 56 1 128 129 130 131 132 344 345))::
(nat_lit 134,(G 17 "numbers_of" 133 "sampleyard.corners" 316))::
(nat_lit 140,(B "check_before_eye" 349 350 351 59 1 135 136 137 138 139 354 355))::
(nat_lit 141,(G 19 "check_before_eye" 140 "sampleyard.edges" 347))::
(nat_lit 142,(T #[(.int (1) 359),(.int (2) 360),(.int (4) 361),(.int (8) 362),(.int (16) 363)]))::
(nat_lit 146,(E "check_pattern" 365 366 367 65 1 143 144 145 368 369))::
(nat_lit 147,(G 22 "check_pattern" 146 "sampleyard.patterns" 357))::
(nat_lit 151,(E "copied" 371 372 373 75 1 148 149 150 374 375))::
(nat_lit 152,(G 23 "copied" 151 "sampleyard.patterns" 357))::
(nat_lit 165,(C "__init__" 391 "Thing.__init__" 392 393 80 2 0 0 3 (.ref 160) true 181 (.ref 161) .none (.ref 162) (.ref 163) (.ref 164) 396 80 397))::
(nat_lit 166,(F (inClass (top 25) 0) "__init__" "Thing.__init__" none .none .none (.ref 165) .none (st "sampleyard.things" 377) .none))::
(nat_lit 172,(C "is_glass" 399 "Thing.is_glass" 400 401 85 1 0 0 3 (.ref 167) true 181 (.ref 168) .none (.ref 169) (.ref 170) (.ref 171) 403 85 404))::
(nat_lit 173,(F (inClass (top 25) 1) "is_glass" "Thing.is_glass" none .none .none (.ref 172) .none (st "sampleyard.things" 377) .none))::
(nat_lit 175,(D [(en P "__module__" 386 (st "sampleyard.things" 377)),(en P "__firstlineno__" 390 (.int (78) 389)),(en P "__init__" 398 (.ref 166)),(en P "is_glass" 405 (.ref 173)),(en P "__static_attributes__" 407 (.ref 174)),(en P "__dict__" 409 (.ref 177)),(en P "__weakref__" 411 (.ref 178)),(en P "__doc__" 412 .none)] 4))::
(nat_lit 176,(L "Thing" [(.type "object")] [(.ref 176),(.type "object")] 175 [(.ref 218),(.ref 258),(.ref 298),(.ref 345)] #[none,none,(some (st "Thing" 379)),(some (st "Thing" 387)),(some (.builtin "object.__new__")),(some (.bool true))]))::
(nat_lit 177,⟨(.type "getset_descriptor"),none,(.fields #[(st "__dict__" 408),(.ref 176),(.builtin "function.__dict__"),(.builtin "function.__dict__#set")]),#[]⟩)::
(nat_lit 178,⟨(.type "getset_descriptor"),none,(.fields #[(st "__weakref__" 410),(.ref 176),(.builtin "ExceptionGroup.__weakref__"),.none]),#[]⟩)::
(nat_lit 181,(T #[(.ref 176)]))::
(nat_lit 193,(C "__init__" 427 "Plain.__init__" 428 429 89 3 0 0 3 (.ref 188) true 181 (.ref 189) .none (.ref 190) (.ref 191) (.ref 192) 433 89 434))::
(nat_lit 194,(F (inClass (top 26) 0) "__init__" "Plain.__init__" none .none .none (.ref 193) .none (st "sampleyard.things" 377) .none))::
(nat_lit 200,(C "word" 436 "Plain.word" 437 438 94 1 0 0 3 (.ref 195) true 181 (.ref 196) .none (.ref 197) (.ref 198) (.ref 199) 440 94 441))::
(nat_lit 201,(F (inClass (top 26) 1) "word" "Plain.word" none .none .none (.ref 200) .none (st "sampleyard.things" 377) .none))::
(nat_lit 207,(C "colour_at" 443 "Plain.colour_at" 444 445 97 2 0 0 3 (.ref 202) true 181 (.ref 203) .none (.ref 204) (.ref 205) (.ref 206) 448 97 449))::
(nat_lit 208,(F (inClass (top 26) 2) "colour_at" "Plain.colour_at" none .none .none (.ref 207) .none (st "sampleyard.things" 377) .none))::
(nat_lit 214,(C "like" 451 "Plain.like" 452 453 100 2 0 0 3 (.ref 209) true 181 (.ref 210) .none (.ref 211) (.ref 212) (.ref 213) 456 100 457))::
(nat_lit 215,(F (inClass (top 26) 3) "like" "Plain.like" none .none .none (.ref 214) .none (st "sampleyard.things" 377) .none))::
(nat_lit 217,(D [(en P "__module__" 422 (st "sampleyard.things" 377)),(en P "__firstlineno__" 426 (.int (87) 425)),(en P "__init__" 435 (.ref 194)),(en P "word" 442 (.ref 201)),(en P "colour_at" 450 (.ref 208)),(en P "like" 458 (.ref 215)),(en P "__static_attributes__" 460 (.ref 216)),(en P "__doc__" 461 .none)] 2))::
(nat_lit 218,(L "Plain" [(.ref 176)] [(.ref 218),(.ref 176),(.type "object")] 217 [] #[(some (.ref 181)),none,(some (st "Plain" 415)),(some (st "Plain" 423)),(some (.builtin "object.__new__")),(some (.bool true))]))::
(nat_lit 221,(T #[(.ref 176)]))::
(nat_lit 233,(C "__init__" 476 "Shaded.__init__" 477 478 104 2 0 0 3 (.ref 228) true 181 (.ref 229) .none (.ref 230) (.ref 231) (.ref 232) 481 104 482))::
(nat_lit 234,(F (inClass (top 27) 0) "__init__" "Shaded.__init__" none .none .none (.ref 233) .none (st "sampleyard.things" 377) .none))::
(nat_lit 240,(C "word" 484 "Shaded.word" 485 486 108 1 0 0 3 (.ref 235) true 181 (.ref 236) .none (.ref 237) (.ref 238) (.ref 239) 488 108 489))::
(nat_lit 241,(F (inClass (top 27) 1) "word" "Shaded.word" none .none .none (.ref 240) .none (st "sampleyard.things" 377) .none))::
(nat_lit 247,(C "colour_at" 491 "Shaded.colour_at" 492 493 111 2 0 0 3 (.ref 242) true 181 (.ref 243) .none (.ref 244) (.ref 245) (.ref 246) 496 111 497))::
(nat_lit 248,(F (inClass (top 27) 2) "colour_at" "Shaded.colour_at" none .none .none (.ref 247) .none (st "sampleyard.things" 377) .none))::
(nat_lit 254,(C "like" 499 "Shaded.like" 500 501 114 2 0 0 3 (.ref 249) true 181 (.ref 250) .none (.ref 251) (.ref 252) (.ref 253) 504 114 505))::
(nat_lit 255,(F (inClass (top 27) 3) "like" "Shaded.like" none .none .none (.ref 254) .none (st "sampleyard.things" 377) .none))::
(nat_lit 257,(D [(en P "__module__" 471 (st "sampleyard.things" 377)),(en P "__firstlineno__" 475 (.int (102) 474)),(en P "__init__" 483 (.ref 234)),(en P "word" 490 (.ref 241)),(en P "colour_at" 498 (.ref 248)),(en P "like" 506 (.ref 255)),(en P "__static_attributes__" 507 (.ref 256)),(en P "__doc__" 508 .none)] 2))::
(nat_lit 258,(L "Shaded" [(.ref 176)] [(.ref 258),(.ref 176),(.type "object")] 257 [] #[(some (.ref 221)),none,(some (st "Shaded" 464)),(some (st "Shaded" 472)),(some (.builtin "object.__new__")),(some (.bool true))]))::
(nat_lit 261,(T #[(.ref 176)]))::
(nat_lit 273,(C "__init__" 523 "Patterned.__init__" 524 525 118 3 0 0 3 (.ref 268) true 181 (.ref 269) .none (.ref 270) (.ref 271) (.ref 272) 529 118 530))::
(nat_lit 274,(F (inClass (top 28) 0) "__init__" "Patterned.__init__" none .none .none (.ref 273) .none (st "sampleyard.things" 377) .none))::
(nat_lit 280,(C "word" 532 "Patterned.word" 533 534 124 1 0 0 3 (.ref 275) true 181 (.ref 276) .none (.ref 277) (.ref 278) (.ref 279) 536 124 537))::
(nat_lit 281,(F (inClass (top 28) 1) "word" "Patterned.word" none .none .none (.ref 280) .none (st "sampleyard.things" 377) .none))::
(nat_lit 287,(C "colour_at" 539 "Patterned.colour_at" 540 541 127 2 0 0 3 (.ref 282) true 181 (.ref 283) .none (.ref 284) (.ref 285) (.ref 286) 544 127 545))::
(nat_lit 288,(F (inClass (top 28) 2) "colour_at" "Patterned.colour_at" none .none .none (.ref 287) .none (st "sampleyard.things" 377) .none))::
(nat_lit 294,(C "like" 547 "Patterned.like" 548 549 130 2 0 0 3 (.ref 289) true 181 (.ref 290) .none (.ref 291) (.ref 292) (.ref 293) 552 130 553))::
(nat_lit 295,(F (inClass (top 28) 3) "like" "Patterned.like" none .none .none (.ref 294) .none (st "sampleyard.things" 377) .none))::
(nat_lit 297,(D [(en P "__module__" 518 (st "sampleyard.things" 377)),(en P "__firstlineno__" 522 (.int (116) 521)),(en P "__init__" 531 (.ref 274)),(en P "word" 538 (.ref 281)),(en P "colour_at" 546 (.ref 288)),(en P "like" 554 (.ref 295)),(en P "__static_attributes__" 556 (.ref 296)),(en P "__doc__" 557 .none)] 2))::
(nat_lit 298,(L "Patterned" [(.ref 176)] [(.ref 298),(.ref 176),(.type "object")] 297 [] #[(some (.ref 261)),none,(some (st "Patterned" 511)),(some (st "Patterned" 519)),(some (.builtin "object.__new__")),(some (.bool true))]))::
(nat_lit 301,(T #[(.ref 176)]))::
(nat_lit 313,(C "__init__" 572 "Glass.__init__" 573 574 134 4 0 0 3 (.ref 308) true 181 (.ref 309) .none (.ref 310) (.ref 311) (.ref 312) 579 134 580))::
(nat_lit 314,(F (inClass (top 29) 0) "__init__" "Glass.__init__" none .none .none (.ref 313) .none (st "sampleyard.things" 377) .none))::
(nat_lit 320,(C "word" 582 "Glass.word" 583 584 141 1 0 0 3 (.ref 315) true 181 (.ref 316) .none (.ref 317) (.ref 318) (.ref 319) 586 141 587))::
(nat_lit 321,(F (inClass (top 29) 1) "word" "Glass.word" none .none .none (.ref 320) .none (st "sampleyard.things" 377) .none))::
(nat_lit 327,(C "is_glass" 589 "Glass.is_glass" 590 591 144 1 0 0 3 (.ref 322) true 181 (.ref 323) .none (.ref 324) (.ref 325) (.ref 326) 593 144 594))::
(nat_lit 328,(F (inClass (top 29) 2) "is_glass" "Glass.is_glass" none .none .none (.ref 327) .none (st "sampleyard.things" 377) .none))::
(nat_lit 334,(C "colour_at" 596 "Glass.colour_at" 597 598 147 2 0 0 3 (.ref 329) true 181 (.ref 330) .none (.ref 331) (.ref 332) (.ref 333) 601 147 602))::
(nat_lit 335,(F (inClass (top 29) 3) "colour_at" "Glass.colour_at" none .none .none (.ref 334) .none (st "sampleyard.things" 377) .none))::
(nat_lit 341,(C "like" 604 "Glass.like" 605 606 150 2 0 0 3 (.ref 336) true 181 (.ref 337) .none (.ref 338) (.ref 339) (.ref 340) 609 150 610))::
(nat_lit 342,(F (inClass (top 29) 4) "like" "Glass.like" none .none .none (.ref 341) .none (st "sampleyard.things" 377) .none))::
(nat_lit 344,(D [(en P "__module__" 567 (st "sampleyard.things" 377)),(en P "__firstlineno__" 571 (.int (132) 570)),(en P "__init__" 581 (.ref 314)),(en P "word" 588 (.ref 321)),(en P "is_glass" 595 (.ref 328)),(en P "colour_at" 603 (.ref 335)),(en P "like" 611 (.ref 342)),(en P "__static_attributes__" 614 (.ref 343)),(en P "__doc__" 615 .none)] 2))::
(nat_lit 345,(L "Glass" [(.ref 176)] [(.ref 345),(.ref 176),(.type "object")] 344 [] #[(some (.ref 301)),none,(some (st "Glass" 560)),(some (st "Glass" 568)),(some (.builtin "object.__new__")),(some (.bool true))]))::
(nat_lit 353,(B "check_values" 618 619 620 152 2 348 349 350 351 352 623 624))::
(nat_lit 354,(G 30 "check_values" 353 "sampleyard.things" 377))::
(nat_lit 360,(B "check_colour" 626 627 628 155 1 355 356 357 358 359 630 631))::
(nat_lit 361,(G 31 "check_colour" 360 "sampleyard.things" 377))::
(nat_lit 367,(B "check_part" 633 634 635 158 1 362 363 364 365 366 637 638))::
(nat_lit 368,(G 32 "check_part" 367 "sampleyard.things" 377))::
(nat_lit 374,(B "number_word" 646 647 648 164 1 369 370 371 372 373 652 653))::
(nat_lit 375,(G 36 "number_word" 374 "sampleyard.texts" 640))::
(nat_lit 381,(B "fraction_word" 655 656 657 174 1 376 377 378 379 380 659 660))::
(nat_lit 382,(G 37 "fraction_word" 381 "sampleyard.texts" 640))::
(nat_lit 388,(B "read_number" 662 663 664 178 1 383 384 385 386 387 667 668))::
(nat_lit 389,(G 38 "read_number" 388 "sampleyard.texts" 640))::
(nat_lit 393,(E "are_figures" 670 671 672 183 1 390 391 392 673 674))::
(nat_lit 394,(G 39 "are_figures" 393 "sampleyard.texts" 640))::
(nat_lit 400,(B "read_fraction" 676 677 678 189 1 395 396 397 398 399 682 683))::
(nat_lit 401,(G 40 "read_fraction" 400 "sampleyard.texts" 640))::
(nat_lit 405,(E "thing_text" 685 686 687 197 1 402 403 404 688 689))::
(nat_lit 406,(G 41 "thing_text" 405 "sampleyard.texts" 640))::
(nat_lit 412,(B "head_words" 691 692 693 199 1 407 408 409 410 411 696 697))::
(nat_lit 413,(G 42 "head_words" 412 "sampleyard.texts" 640))::
(nat_lit 417,(E "pattern_word" 699 700 701 208 1 414 415 416 702 703))::
(nat_lit 418,(G 43 "pattern_word" 417 "sampleyard.texts" 640))::
(nat_lit 422,(E "corner_text" 705 706 707 210 1 419 420 421 708 709))::
(nat_lit 423,(G 44 "corner_text" 422 "sampleyard.texts" 640))::
(nat_lit 427,(E "read_thing" 711 712 713 212 1 424 425 426 714 715))::
(nat_lit 428,(G 45 "read_thing" 427 "sampleyard.texts" 640))::
(nat_lit 434,(B "check_text" 717 718 719 218 1 429 430 431 432 433 721 722))::
(nat_lit 435,(G 46 "check_text" 434 "sampleyard.texts" 640))::
(nat_lit 441,(B "groups_of" 724 725 726 221 1 436 437 438 439 440 730 731))::
(nat_lit 442,(G 47 "groups_of" 441 "sampleyard.texts" 640))::
(nat_lit 446,(E "read_corner" 733 734 735 229 1 443 444 445 736 737))::
(nat_lit 447,(G 48 "read_corner" 446 "sampleyard.texts" 640))::
(nat_lit 453,(B "thing_of" 739 740 741 234 2 448 449 450 451 452 744 745))::
(nat_lit 454,(G 49 "thing_of" 453 "sampleyard.texts" 640))::
(nat_lit 458,(E "read_pattern" 747 748 749 244 1 455 456 457 750 751))::
(nat_lit 459,(G 50 "read_pattern" 458 "sampleyard.texts" 640))::
(nat_lit 465,(B "_law_divisor" 755 756 757 247 2 460 461 462 463 464 760 761))::
(nat_lit 466,(G 52 "_law_divisor" 465 "law_sampleyard_k81_things_written" 753))::
(nat_lit 472,(B "_law_mixed" 763 764 765 251 2 467 468 469 470 471 769 770))::
(nat_lit 473,(G 53 "_law_mixed" 472 "law_sampleyard_k81_things_written" 753))::
(nat_lit 479,(B "_law_number" 772 773 774 257 2 474 475 476 477 478 778 779))::
(nat_lit 480,(G 54 "_law_number" 479 "law_sampleyard_k81_things_written" 753))::
(nat_lit 486,(B "_law_far" 781 782 783 260 3 481 482 483 484 485 788 789))::
(nat_lit 487,(G 55 "_law_far" 486 "law_sampleyard_k81_things_written" 753))::
(nat_lit 493,(B "_law_fraction" 791 792 793 263 2 488 489 490 491 492 800 801))::
(nat_lit 494,(G 56 "_law_fraction" 493 "law_sampleyard_k81_things_written" 753))::
(nat_lit 500,(B "_law_part" 803 804 805 269 2 495 496 497 498 499 810 811))::
(nat_lit 501,(G 57 "_law_part" 500 "law_sampleyard_k81_things_written" 753))::
(nat_lit 505,(E "_law_corner" 813 814 815 275 3 502 503 504 816 817))::
(nat_lit 506,(G 58 "_law_corner" 505 "law_sampleyard_k81_things_written" 753))::
(nat_lit 510,(E "_law_pattern" 819 820 821 280 1 507 508 509 822 823))::
(nat_lit 511,(G 59 "_law_pattern" 510 "law_sampleyard_k81_things_written" 753))::
(nat_lit 517,(B "_law_word" 825 826 827 284 1 512 513 514 515 516 829 830))::
(nat_lit 518,(G 60 "_law_word" 517 "law_sampleyard_k81_things_written" 753))::
(nat_lit 522,(E "_law_row" 832 833 834 288 2 519 520 521 835 836))::
(nat_lit 523,(G 61 "_law_row" 522 "law_sampleyard_k81_things_written" 753))::
(nat_lit 529,(B "_law_kinds" 838 839 840 293 1 524 525 526 527 528 842 843))::
(nat_lit 530,(G 62 "_law_kinds" 529 "law_sampleyard_k81_things_written" 753))::
(nat_lit 534,(E "_law_alike" 845 846 847 295 6 531 532 533 848 849))::
(nat_lit 535,(G 63 "_law_alike" 534 "law_sampleyard_k81_things_written" 753))::
(nat_lit 541,(B "_law_right" 851 852 853 301 7 536 537 538 539 540 863 864))::
(nat_lit 542,(G 64 "_law_right" 541 "law_sampleyard_k81_things_written" 753))::
(nat_lit 546,(E "law" 866 867 868 309 1 543 544 545 869 870))::
(nat_lit 547,(G 65 "law" 546 "law_sampleyard_k81_things_written" 753))::
[]
abbrev addrs:List Addr:=[2,3,20,21,22,30,31,32,35,43,44,47,55,56,59,67,68,71,83,84,86,87,95,96,102,103,109,110,116,117,121,122,126,127,133,134,140,141,142,146,147,151,152,165,166,172,173,175,176,177,178,181,193,194,200,201,207,208,214,215,217,218,221,233,234,240,241,247,248,254,255,257,258,261,273,274,280,281,287,288,294,295,297,298,301,313,314,320,321,327,328,334,335,341,342,344,345,353,354,360,361,367,368,374,375,381,382,388,389,393,394,400,401,405,406,412,413,417,418,422,423,427,428,434,435,441,442,446,447,453,454,458,459,465,466,472,473,479,480,486,487,493,494,500,501,505,506,510,511,517,518,522,523,529,530,534,535,541,542,546,547]
abbrev most:Nat:=8286
theorem Zdx(P:Params):addrs=(heap P).map (·.1):=rfl
abbrev hook:Hook:=kHook heap addrs Zdx
end Hd
namespace Hd
open PySem PySem.W PyProof.Rows
def ZfC(tb:String→Option Builtin)(p:Program)(w:World)(n₀:Nat)(ann:Option Value):Nat→SharedT→Thread→Option SharedT
 | 0,_,_=>none
 | n+1,s,t=>match through t with
  | true=>some s
  | false=>match stepOk n₀ ann t with
   | false=>none
   | true=>match stepT (denote tb) p w s t with
    | some (s',t')=>ZfC tb p w n₀ ann n s' t'
    | none=>none
theorem ZfZ{tb:String→Option Builtin}{p:Program}{w:World}{n₀:Nat}{ann:Option Value}:∀{n:Nat} {s s':SharedT} {t:Thread},ZfC tb p w n₀ ann n s t=some s'→topRun tb p w n₀ ann n s.abs t=some s'.abs
 | 0,_,_,_,h=>by cases h
 | n+1,s,s',t,h=>by
  unfold ZfC at h
  unfold topRun
  cases he:through t with
  | true=>rw [he] at h;cases h;rfl
  | false =>
   rw [he] at h
   cases hk:stepOk n₀ ann t with
   | false=>rw [hk] at h;cases h
   | true =>
    rw [hk] at h
    cases hs:stepT (denote tb) p w s t with
    | none=>rw [hs] at h;cases h
    | some r=>obtain ⟨s₂,t₂⟩:=r;rw [hs] at h;rw [stepT_spec hs];exact ZfZ h
def Zgf(p:Program)(w:World)(n₀:Nat)(ann:Option Value):Nat→SharedT→Thread→Option SharedT
 | 0,_,_=>none
 | n+1,s,t=>match through t with
  | true=>some s
  | false=>match Fast.tw6613529449190102663 n₀ ann t with
   | false=>none
   | true=>match Fast.tw10156331382660048174 (Fast.tw11892475500146522536 Fast.tw14364793385576792824) p w s t with
    | some (s',t')=>Zgf p w n₀ ann n s' t'
    | none=>none
theorem Zf8(p:Program)(w:World)(n₀:Nat)(ann:Option Value):∀(n:Nat) (s:SharedT) (t:Thread),ZfC treeTable p w n₀ ann n s t=Zgf p w n₀ ann n s t
 | 0,_,_=>rfl
 | n+1,s,t=>by
  unfold ZfC Zgf
  rw [Fast.te6613529449190102663,Fast.te10156331382660048174,Fast.te11892475500146522536,Fast.te14364793385576792824]
  cases through t with
  | true=>rfl
  | false =>
   cases Fast.tw6613529449190102663 n₀ ann t with
   | false=>rfl
   | true =>
    cases Fast.tw10156331382660048174 (Fast.tw11892475500146522536 Fast.tw14364793385576792824) p w s t with
    | none=>rfl
    | some r =>
     obtain ⟨s',t'⟩:=r
     have:=Zf8 p w n₀ ann n s' t'
     rw [Fast.te14364793385576792824] at this
     exact this
def Zie(i:Nat)(t:BT):List Obj→BT
 | []=>t
 | o::r=>Zie (i+1) (t.ins i o) r
def Zqa(w:World)(os:OsState):SharedT:=⟨Zie 0 .nil (boot_heap w.params).objs.toList,(boot_heap w.params).objs.size,(boot_heap w.params).life,Array.mk [],boot_drawn,boot_toks,os⟩
theorem ZjV(w:World)(os:OsState):(Zqa w os).abs=⟨boot_heap w.params,Array.mk [],boot_drawn,boot_toks,os⟩:=by kernel_rfl
def obsT(as:List Addr)(s:SharedT):List (Option Obj):=as.map fun a=>match Nat.blt a s.n with
 | true=>alive ((s.tree.get a).getD default)
 | false=>none
theorem Znt(as:List Addr)(s:SharedT):as.map s.abs.heap.get?=obsT as s:=by
 unfold obsT
 refine List.map_congr_left fun a _=>?_
 show (absHeap s.tree s.n s.life).get? a=_
 unfold Heap.get?
 rw [absHeap_at]
 by_cases h:a<s.n
 ·rw [if_pos h,show Nat.blt a s.n=true from Nat.ble_eq.mpr h]
  generalize (s.tree.get a).getD default=o
  obtain ⟨c,d,dt,sl⟩:=o
  cases dt<;>rfl
 ·rw [if_neg h,show Nat.blt a s.n=false from Bool.eq_false_iff.mpr fun z=>h (Nat.le_of_ble_eq_true z)]
theorem Zj4{p q:Program}{loose:List Str}{Xt:Shared→Bool}{α:Type}{Yf:Shared→α}{Yt:SharedT→α}{Ya:World→α}{N m₀:Nat}{ann:Option Value}{g0:Bool}(hY:∀s,Yf s.abs=Yt s)
  (e:opening p=plainProg p.main.scope.names) (hN:Nat.ble 600 N=true) (f:∀s,fenceModules? p s=some s)
  (hz:∀w:World,((boot_heap w.params).isNs mainGlobals,(boot_heap w.params).objs.size,(boot_heap w.params).nsMap mainGlobals "__annotations__")=(true,m₀,ann))
  (h:∀(w:World) (os:OsState),(Zgf p w m₀ ann N (Zqa w os) (topStub p)).map (fun s=>((staticsOk (importedModules p.main.body) (boot_heap w.params) s.abs.heap&&namesBound p s.abs.heap&&gensDone s.abs&&laidKept (boot_heap w.params) s.abs.heap),Fast.tw4187177175401517315 q loose (importedModules p.main.body) Xt g0 s.abs,Yt s))=some (true,openGood q loose,Ya w)) :
  LeftO p q loose Xt Yf Ya N g0:=fun w=>by
 obtain ⟨s,hs,hv⟩:=Option.map_eq_some_iff.mp (boot_open e hN f w)
 unfold openEnds
 rw [hs]
 obtain ⟨hp,g,d,k,os⟩:=s
 obtain ⟨rfl,rfl,rfl,rfl⟩ : hp=boot_heap w.params∧g=Array.mk []∧d=boot_drawn∧k=boot_toks:=by simpa using hv
 obtain ⟨s₁,h1,h2⟩:=Option.map_eq_some_iff.mp (h w os)
 rw [←Zf8] at h1
 rw [←Fast.te4187177175401517315] at h2
 have r:=ZfZ h1
 rw [ZjV] at r
 obtain ⟨z1,z2,z3⟩ : _∧_∧_:=by simpa only [Prod.mk.injEq] using hz w
 obtain ⟨l1,l2,l3⟩ : _∧_∧_:=by simpa only [Prod.mk.injEq] using h2
 show (topFrom treeTable p w N ⟨boot_heap w.params,Array.mk [],boot_drawn,boot_toks,os⟩).map _=_
 unfold topFrom
 dsimp only
 rw [z1]
 show (((topRun treeTable p w (boot_heap w.params).objs.size ((boot_heap w.params).nsMap mainGlobals "__annotations__") N ⟨boot_heap w.params,Array.mk [],boot_drawn,boot_toks,os⟩ (topStub p)).bind fun s₁=>match staticsOk (importedModules p.main.body) (boot_heap w.params) s₁.heap&&namesBound p s₁.heap&&gensDone s₁&&laidKept (boot_heap w.params) s₁.heap with
   | true=>some s₁
   | false=>none).map _)=_
 rw [z2,z3,r]
 show ((match staticsOk (importedModules p.main.body) (boot_heap w.params) s₁.abs.heap&&namesBound p s₁.abs.heap&&gensDone s₁.abs&&laidKept (boot_heap w.params) s₁.abs.heap with
   | true=>some s₁.abs
   | false=>none).map _)=_
 rw [l1]
 show some (openSeen q loose (importedModules p.main.body) Xt g0 s₁.abs,Yf s₁.abs)=_
 rw [l2,hY,l3]
set_option maxRecDepth 100000 in
set_option maxHeartbeats 0 in
theorem left:LeftO PySem.Challenge.pw_sampleyard_k81_things_written view [] (fun s=>xlAt view [] s&&recOk (RowW.records PySem.Challenge.rw_sampleyard_k81_things_written.row.toRowW) s) (Hook.obs hook) (Hook.val hook) most :=
 Zj4 (Znt addrs) (by kernel_rfl) (by decide) (fun s=>by kernel_rfl) (m₀:=11) (ann:=some (.ref 6)) (fun w=>by kernel_rfl) (fun w os=>by kernel_rfl)
end Hd
namespace L2
open PySem PySem.Spec PyProof.Rows
abbrev Key:=Sum Int Str
def Zp4:Key→Value→Bool
 | .inl k,v=>Value.isInt k v
 | .inr x,v=>Value.isStrOf x v
def keyH(w:World):Key→Int
 | .inl k=>hashInt k
 | .inr x=>hashStr w x
theorem Za1:∀{k:Key} {v:Value},Zp4 k v=true→(∃i t,k=Sum.inl i∧v=Value.int i t)∨(∃x t,k=Sum.inr x∧v=Value.str x t)
 | .inl i,v,h=>by
  obtain ⟨t,e⟩:=Value.isInt_shape (k:=i) (v:=v) h
  exact .inl ⟨i,t,rfl,e⟩
 | .inr x,v,h=>by
  obtain ⟨t,e⟩:=Value.isStrOf_shape (x:=x) (v:=v) h
  exact .inr ⟨x,t,rfl,e⟩
theorem Zpt(a b:Int):decide ((Sum.inl a:Key)=Sum.inl b)=(a==b):=by
 by_cases e:a=b
 ·subst e;simp
 ·have h:¬(Sum.inl a:Key)=Sum.inl b:=fun q=>e (Sum.inl.inj q)
  rw [decide_eq_false h]
  exact (beq_eq_false_iff_ne.mpr e).symm
theorem Zot(a b:Str):decide ((Sum.inr a:Key)=Sum.inr b)=decide (a=b):=by
 by_cases e:a=b
 ·subst e;simp
 ·have h:¬(Sum.inr a:Key)=Sum.inr b:=fun q=>e (Sum.inr.inj q)
  rw [decide_eq_false h,decide_eq_false e]
theorem ZoC(a:Int)(b:Str):decide ((Sum.inl a:Key)=Sum.inr b)=false:=decide_eq_false (fun q=>nomatch q)
theorem ZoF(a:Str)(b:Int):decide ((Sum.inr a:Key)=Sum.inl b)=false:=decide_eq_false (fun q=>nomatch q)
def ZjY(prog:Program)(w:World):PySem.KeyKind prog w Key where
 is:=Zp4
 hash:=keyH w
 inj:=fun v a b ha hb=>by
  rcases Za1 ha with ⟨i,t,rfl,rfl⟩ | ⟨x,t,rfl,rfl⟩
  ·rcases Za1 hb with ⟨j,u,rfl,e⟩ | ⟨y,u,rfl,e⟩
   ·injection e with e1 _;rw [e1]
   ·exact nomatch e
  ·rcases Za1 hb with ⟨j,u,rfl,e⟩ | ⟨y,u,rfl,e⟩
   ·exact nomatch e
   ·injection e with e1 _;rw [e1]
 byValue:=fun k v h=>by
  rcases Za1 h with ⟨i,t,rfl,rfl⟩ | ⟨x,t,rfl,rfl⟩<;>rfl
 pyHash:=fun hv h=>by
  rcases Za1 hv with ⟨i,t,rfl,rfl⟩ | ⟨x,t,rfl,rfl⟩
  ·exact wpAny_pyHash_int h
  ·exact wpAny_pyHash_str h
 eqBool:=fun hu hv h=>by
  rcases Za1 hu with ⟨i,t,rfl,rfl⟩ | ⟨x,t,rfl,rfl⟩
  ·rcases Za1 hv with ⟨j,u,rfl,rfl⟩ | ⟨y,u,rfl,rfl⟩
   ·rw [Zpt] at h;exact wpAny_eqBool_int h
   ·rw [ZoC] at h;exact SeqAt.EqAt.int_str i t y u _ _ _ _ h
  ·rcases Za1 hv with ⟨j,u,rfl,rfl⟩ | ⟨y,u,rfl,rfl⟩
   ·rw [ZoF] at h;exact SeqAt.EqAt.str_int x t j u _ _ _ _ h
   ·rw [Zot] at h;exact wpAny_eqBool_str h
 «strs»:=fun k x t v h=>by
  rcases Za1 h with ⟨i,u,rfl,e⟩ | ⟨y,u,rfl,e⟩
  ·exact nomatch e
  ·injection e with e1 _
   subst e1
   cases v<;>rfl
inductive V where
 | non | bl (b:Bool) | int (i:Int) | str (x:Str) | byt (b:Array UInt8) | flt (b:UInt64) | ref (a:Addr) | ty (n:String)
 deriving DecidableEq
def RelV:V→Value→Prop
 | .non,u=>u=Value.none
 | .bl b,u=>u=Value.bool b
 | .int i,u=>∃t,u=Value.int i t
 | .str x,u=>∃t,u=Value.str x t
 | .byt b,u=>∃t,u=Value.bytes b t
 | .flt b,u=>∃t,u=Value.float b t
 | .ref a,u=>u=Value.ref a
 | .ty n,u=>u=Value.type n
abbrev Vals:List V→List Value→Prop:=Paired RelV
theorem Vals.length{xs:List V}{us:List Value}(r:Vals xs us):xs.length=us.length:=Paired.length r
theorem Vals.get:∀{xs:List V} {us:List Value} {i:Nat} {x:V},Vals xs us→xs[i]?=some x→∃u,us[i]?=some u∧RelV x u
 | _,_,_,_,.nil,e=>by simp at e
 | _,_,0,_,.cons r _,e=>by simp at e;subst e;exact ⟨_,rfl,r⟩
 | _,_,i+1,x,.cons _ t,e=>by
  obtain ⟨u,h1,h2⟩:=Vals.get (i:=i) (x:=x) t (by simpa using e)
  exact ⟨u,by simpa using h1,h2⟩
theorem Vals.append:∀{xs ys:List V} {us ws:List Value},Vals xs us→Vals ys ws→Vals (xs++ys) (us++ws)
 | _,_,_,_,.nil,s=>s
 | _,_,_,_,.cons r t,s=>.cons r (Vals.append t s)
theorem Vals.take:∀{xs:List V} {us:List Value} (n:Nat),Vals xs us→Vals (xs.take n) (us.take n)
 | _,_,0,_=>.nil
 | _,_,_+1,.nil=>.nil
 | _,_,n+1,.cons r t=>.cons r (Vals.take n t)
theorem Vals.drop:∀{xs:List V} {us:List Value} (n:Nat),Vals xs us→Vals (xs.drop n) (us.drop n)
 | _,_,0,r=>r
 | _,_,_+1,.nil=>.nil
 | _,_,n+1,.cons _ t=>Vals.drop n t
def RelO:Option V→Option Value→Prop
 | some v,some u=>RelV v u
 | none,none=>True
 | _,_=>False
def KV{κ:Type}:List (κ×V)→List (κ×Value)→Prop:=Paired fun (p:κ×V) (q:κ×Value)=>p.1=q.1∧RelV p.2 q.2
def kV:Key→V
 | .inl i=>.int i
 | .inr x=>.str x
inductive HO where
 | lst (xs:List V)
 | tup (xs:List V)
 | dK (kvs:List (Key×V)) | dT (kvs:List (List Key×V))
 | set (S:Int→Bool) (n:Nat)
 | ins (C dx:Addr) (fs:List (Str×V))
 | own (x:Addr)
 | xd (fs:List (Str×V))
 | met (f x:Addr)
 | rng (lo hi:Int)
 | frz (o:Obj) (u:HO)
 | tbl (ps:Array Value)
 | ext (φ:Heap→Prop)
abbrev Hp:=Addr→Option HO
def upd(H:Hp)(a:Addr)(o:HO):Hp:=fun b=>if b=a then some o else H b
theorem Zal{H:Hp}{a:Addr}{o:HO}:upd H a o a=some o:=by unfold upd;rw [if_pos rfl]
theorem Zar{H:Hp}{a b:Addr}{o:HO}(h:b≠a):upd H a o b=H b:=by unfold upd;rw [if_neg h]
theorem Zai{H:Hp}{a b:Addr}{o:HO}(h:H a=some o)(h':H b=none):a≠b:=by
 intro e;subst e;rw [h] at h';cases h'
section
variable(P:Program)(w:World)
def Zcd(H:Hp)(h:Heap)(a:Addr):HO→Prop
 | .lst xs=>xs.length≤sizeLine∧∃(its:List Value) (n:Nat),Vals xs its∧h.get? a=some { cls:=.type "list", data:=.seq its.toArray n }
 | .tup xs=>xs.length≤sizeLine∧∃its:List Value,Vals xs its∧IsTup h a its.toArray
 | .dK kvs=>kvs.length≤sizeLine∧(a==sysModules)=false∧∃vs,KV kvs vs∧h.DictOf (ZjY P w) a vs
 | .dT kvs=>kvs.length≤sizeLine∧(a==sysModules)=false∧∃xs:List (List Key×Addr×Value),
   Paired (fun (p:List Key×V) (q:List Key×Addr×Value)=>p.1=q.1∧H q.2.1=some (.tup (p.1.map kV))∧RelV p.2 q.2.2) kvs xs ∧
   ∃o es ep,h.get? a=some o∧o.ExactDict∧o.data=.dict es ep∧es.toList=xs.map (entryOfKey (tupleKind (ZjY P w)))∧(xs.map (·.1)).Nodup
 | .set S n=>h.SetOf (intKind P w) a S n
 | .ins C dx fs=>H dx=some (.own a)∧fs.length≤1000∧dx≠a∧h.get? a=some (W.instObj C dx) ∧
   ∃mA,h.Ns1 dx mA∧(∀f,RelO (fs.lookup f) (mA f))∧PySem.Within mA (fs.map (·.1))
 | .own _=>∃o,h.get? a=some o
 | .xd fs=>∃mA,h.Ns1 a mA∧∀f,RelO (fs.lookup f) (mA f)
 | .rng lo hi=>∃t u v,h.get? a=some { cls:=.type "range", data:=.fields #[.int lo t,.int hi u,.int 1 v] }
 | .frz o u=>h.get? a=some o∧Zcd H h a u
 | .tbl ps=>h.get? a=some { cls:=.none,data:=.fields ps }
 | .met f x=>h.get? a=some (W.methodObj (.ref f) (.ref x))
 | .ext φ=>φ h∧(∃o,h.get? a=some o)∧∀h1 h2:Heap,φ h1→(∀o,h1.get? a=some o→h2.get? a=some o)→φ h2
def HOk(H:Hp)(h:Heap):Prop:=∀a o,H a=some o→Zcd P w H h a o
end
section
variable{P:Program}{w:World}{H H':Hp}{h h':Heap}{a:Addr}{o:HO}
theorem Zcd.lt(x:Zcd P w H h a o):a<h.objs.size:=by
 cases o with
 | lst xs=>obtain ⟨_,_,_,_,e⟩:=x;exact Heap.lt_size e
 | tup xs=>obtain ⟨_,_,_,p⟩:=x;exact p.lt
 | dK kvs=>obtain ⟨_,_,_,_,o,_,_,e,_⟩:=x;exact Heap.lt_size e
 | dT kvs=>obtain ⟨_,_,_,_,o,_,_,e,_⟩:=x;exact Heap.lt_size e
 | set S n=>obtain ⟨o,_,_,_,e,_⟩:=x;exact Heap.lt_size e
 | ins C dx fs=>obtain ⟨_,_,_,e,_⟩:=x;exact Heap.lt_size e
 | own y=>obtain ⟨_,e⟩:=x;exact Heap.lt_size e
 | xd fs=>obtain ⟨_,⟨_,_,_,e,_⟩,_⟩:=x;exact Heap.lt_size e
 | rng lo hi=>obtain ⟨_,_,_,e⟩:=x;exact Heap.lt_size e
 | frz ob u=>obtain ⟨e,_⟩:=x;exact Heap.lt_size e
 | tbl ps=>exact Heap.lt_size (show h.get? a=some _ from x)
 | met f y=>exact Heap.lt_size (show h.get? a=some _ from x)
 | ext φ=>obtain ⟨_,⟨_,e⟩,_⟩:=x;exact Heap.lt_size e
theorem Paired.mapP{α β:Type}{F G:α→β→Prop}:∀{l₁:List α} {l₂:List β},Paired F l₁ l₂→(∀a b,F a b→G a b)→Paired G l₁ l₂
 | _,_,.nil,_=>.nil
 | _,_,.cons r t,f=>.cons (f _ _ r) (Paired.mapP t f)
theorem Zcd.stay(x:Zcd P w H h a o)(k:∀b u,(b=a∨H b=some (.own a))→h.get? b=some u→h'.get? b=some u)
  (ho:∀b,H b=some (.own a)→H' b=some (.own a)) (ht:∀b xs,H b=some (.tup xs)→H' b=some (.tup xs)):Zcd P w H' h' a o:=by
 induction o with
 | lst xs=>obtain ⟨z,its,n,r,e⟩:=x;exact ⟨z,its,n,r,k _ _ (.inl rfl) e⟩
 | tup xs=>obtain ⟨z,its,r,ob,e,c⟩:=x;exact ⟨z,its,r,ob,k _ _ (.inl rfl) e,c⟩
 | dK kvs=>obtain ⟨z,y,vs,r,ob,es,ep,e,c⟩:=x;exact ⟨z,y,vs,r,ob,es,ep,k _ _ (.inl rfl) e,c⟩
 | dT kvs =>
  obtain ⟨z,y,xs,r,ob,es,ep,e,c⟩:=x
  exact ⟨z,y,xs,Paired.mapP r fun p q z=>⟨z.1,ht _ _ z.2.1,z.2.2⟩,ob,es,ep,k _ _ (.inl rfl) e,c⟩
 | set S n=>obtain ⟨ob,es,ep,t,e,c⟩:=x;exact ⟨ob,es,ep,t,k _ _ (.inl rfl) e,c⟩
 | ins C dx fs =>
  obtain ⟨d,z,ne,e,mA,⟨od,es,ep,e2,c⟩,r⟩:=x
  exact ⟨ho _ d,z,ne,k _ _ (.inl rfl) e,mA,⟨od,es,ep,k _ _ (.inr d) e2,c⟩,r⟩
 | own y=>obtain ⟨ob,e⟩:=x;exact ⟨ob,k _ _ (.inl rfl) e⟩
 | xd fs=>obtain ⟨mA,⟨od,es,ep,e,c⟩,r⟩:=x;exact ⟨mA,⟨od,es,ep,k _ _ (.inl rfl) e,c⟩,r⟩
 | rng lo hi=>obtain ⟨t,u,v,e⟩:=x;exact ⟨t,u,v,k _ _ (.inl rfl) e⟩
 | frz ob u ih=>obtain ⟨e,q⟩:=x;exact ⟨k _ _ (.inl rfl) e,ih q⟩
 | tbl ps =>
  have e:h.get? a=some { cls:=.none,data:=.fields ps }:=x
  show h'.get? a=some { cls:=.none,data:=.fields ps }
  exact k a _ (.inl rfl) e
 | met f y =>
  have e:h.get? a=some (W.methodObj (.ref f) (.ref y)):=x
  show h'.get? a=some (W.methodObj (.ref f) (.ref y))
  exact k a _ (.inl rfl) e
 | ext φ=>obtain ⟨p,⟨o,e⟩,st⟩:=x;exact ⟨st _ _ p fun o q=>k _ _ (.inl rfl) q,⟨o,k _ _ (.inl rfl) e⟩,st⟩
theorem HOk.lt(x:HOk P w H h)(e:H a=some o):a<h.objs.size:=(x a o e).lt
theorem HOk.fresh(x:HOk P w H h)(e:h.objs.size≤a):H a=none:=by
 cases q:H a with
 | none=>rfl
 | some u=>exact absurd (Nat.lt_of_lt_of_le (x.lt q) e) (Nat.lt_irrefl _)
theorem HOk.kept(x:HOk P w H h)(k:∀b u,h.get? b=some u→h'.get? b=some u):HOk P w H h':=fun a o e =>
 (x a o e).stay (fun b u _ q=>k b u q) (fun _ q=>q) fun _ _ q=>q
theorem HOk.laid(x:HOk P w H h)(k:∀b u,h.get? b=some u→h'.get? b=some u)(hp:h.objs.size≤a)(new:Zcd P w (upd H a o) h' a o):HOk P w (upd H a o) h':=fun b u e=>by
 have hn:=x.fresh hp
 by_cases hb:b=a
 ·subst hb;rw [Zal] at e;cases e;exact new
 ·rw [Zar hb] at e
  exact (x b u e).stay (fun c v _ q=>k c v q) (fun c q=>by rw [Zar (Zai q hn)];exact q) fun c xs q=>by rw [Zar (Zai q hn)];exact q
end
def Rd(H:Hp)(a:Addr)(u:HO):Prop:=H a=some u∨∃o,H a=some (.frz o u)
theorem Rd.ok{P:Program}{w:World}{H:Hp}{h:Heap}{a:Addr}{u:HO}(r:Rd H a u)(x:HOk P w H h):Zcd P w H h a u:=by
 rcases r with r | ⟨o,r⟩
 ·exact x a u r
 ·obtain ⟨_,q⟩:=x a _ r
  exact q
def Mut:Option HO→Prop
 | some (.lst _)=>True
 | some (.dK _)=>True
 | some (.dT _)=>True
 | some (.set _ _)=>True
 | some (.ins _ _ _)=>True
 | some (.ext _)=>True
 | _=>False
section
variable{P:Program}{w:World}{H:Hp}{h h':Heap}{x e:Addr}{o':HO}
theorem HOk.write(ok:HOk P w H h)(mu:Mut (H x))(he:e=x∨H e=some (.own x))(k:∀b u,b≠e→h.get? b=some u→h'.get? b=some u)(heo:∃u,h'.get? e=some u)
  (new:Zcd P w (upd H x o') h' x o'):HOk P w (upd H x o') h':=fun b u q=>by
 have nown:∀c y,H c=some (.own y)→c≠x:=fun c y r z=>by subst z;rw [r] at mu;exact mu
 have ntup:∀c xs,H c=some (.tup xs)→c≠x:=fun c xs r z=>by subst z;rw [r] at mu;exact mu
 by_cases hb:b=x
 ·subst hb;rw [Zal] at q;cases q;exact new
 ·rw [Zar hb] at q
  by_cases hbe:b=e
  ·have q':H b=some (.own x):=by
    rcases he with z | z
    ·exact absurd (hbe.trans z) hb
    ·rw [hbe];exact z
   rw [q] at q';cases q'
   obtain ⟨v,hv⟩:=heo
   exact ⟨v,by rw [hbe];exact hv⟩
  ·refine (ok b u q).stay (fun c v hc r=>k c v ?_ r) (fun c r=>by rw [Zar (nown c b r)];exact r) fun c xs r=>by rw [Zar (ntup c xs r)];exact r
   rcases hc with rfl | hc
   ·exact hbe
   ·rintro rfl
    rcases he with z | z
    ·exact nown c b hc z
    ·rw [hc] at z;cases z;exact hb rfl
end
structure Un(fs ex:List Addr)(H H':Hp)(h h':Heap):Prop where
 keep:∀b o,h.get? b=some o→H b=none→b∉fs→b∉ex→h'.get? b=some o
 slot:∀b o,h.get? b=some o→H b=none→b∈fs→b∉ex→∃sl,h'.get? b=some { o with slots:=sl }
 free:∀b o,h.get? b=some o→H b=none→b∉ex→H' b=none
 there:∀b o,h.get? b=some o→b∉ex→∃o',h'.get? b=some o'
 tups:∀b xs,H b=some (.tup xs)→H' b=some (.tup xs)
 frzs:∀b o u,H b=some (.frz o u)→H' b=some (.frz o u)
 tbls:∀b ps,H b=some (.tbl ps)→∃more,H' b=some (.tbl (ps++more))
section
variable{fs fs' ex ex':List Addr}{H H1 H2:Hp}{h h1 h2 h':Heap}{a x e:Addr}{o:HO}
theorem Un.any(u:Un fs ex H H1 h h1){b:Addr}{ob:Obj}(q:h.get? b=some ob)(n:H b=none)(hx:b∉ex):∃sl,h1.get? b=some { ob with slots:=sl }:=by
 by_cases hb:b∈fs
 ·exact u.slot b ob q n hb hx
 ·exact ⟨ob.slots,u.keep b ob q n hb hx⟩
theorem Un.trans(a:Un fs ex H H1 h h1)(b:Un fs ex H1 H2 h1 h2):Un fs ex H H2 h h2 where
 keep:=fun c ob q n hc hx=>b.keep c ob (a.keep c ob q n hc hx) (a.free c ob q n hx) hc hx
 slot:=fun c ob q n hc hx=>by
  obtain ⟨sl,e1⟩:=a.slot c ob q n hc hx
  obtain ⟨sl',e2⟩:=b.slot c _ e1 (a.free c ob q n hx) hc hx
  exact ⟨sl',e2⟩
 free:=fun c ob q n hx=>by
  obtain ⟨o',e1⟩:=a.there c ob q hx
  exact b.free c o' e1 (a.free c ob q n hx) hx
 there:=fun c ob q hx=>by
  obtain ⟨o',e1⟩:=a.there c ob q hx
  exact b.there c o' e1 hx
 tups:=fun c xs q=>b.tups c xs (a.tups c xs q)
 frzs:=fun c ob xs q=>b.frzs c ob xs (a.frzs c ob xs q)
 tbls:=fun c ps q=>by
  obtain ⟨m1,e1⟩:=a.tbls c ps q
  obtain ⟨m2,e2⟩:=b.tbls c _ e1
  exact ⟨m1++m2,by rw [e2,Array.append_assoc]⟩
theorem Un.kept(k:∀b u,h.get? b=some u→h'.get? b=some u):Un fs ex H H h h' :=
 ⟨fun b ob q _ _ _=>k b ob q,fun b ob q _ _ _=>⟨ob.slots,k b ob q⟩,fun _ _ _ n _=>n,fun b ob q _=>⟨ob,k b ob q⟩,fun _ _ q=>q,fun _ _ _ q=>q,fun _ ps q=>⟨#[],by rw [q];simp⟩⟩
theorem Un.refl:Un fs ex H H h h:=Un.kept fun _ _ q=>q
theorem Un.laid(k:∀b u,h.get? b=some u→h'.get? b=some u)(hp:h.objs.size≤a)(hn:H a=none):Un fs ex H (upd H a o) h h' where
 keep:=fun b u q _ _ _=>k b u q
 slot:=fun b u q _ _ _=>⟨u.slots,k b u q⟩
 free:=fun b u q n _=>by rw [Zar (Nat.ne_of_lt (Nat.lt_of_lt_of_le (Heap.lt_size q) hp))];exact n
 there:=fun b u q _=>⟨u,k b u q⟩
 tups:=fun b xs q=>by rw [Zar (Zai q hn)];exact q
 frzs:=fun b u xs q=>by rw [Zar (Zai q hn)];exact q
 tbls:=fun b ps q=>⟨#[],by rw [Zar (Zai q hn),q];simp⟩
theorem Un.write(mu:Mut (H x))(he:e=x∨H e=some (.own x))(k:∀b u,b≠e→h.get? b=some u→h'.get? b=some u)(heo:∃u,h'.get? e=some u):Un fs ex H (upd H x o) h h':=by
 have hx:∀b,H b=none→b≠x:=fun b n z=>by subst z;rw [n] at mu;exact mu
 have hb:∀b,H b=none→b≠e:=fun b n z=>by
  subst z
  rcases he with r | r
  ·exact hx b n r
  ·rw [n] at r;cases r
 have hm:∀b u,H b=some u→¬Mut (some u)→b≠x:=fun b u q nm z=>by subst z;rw [q] at mu;exact nm mu
 refine ⟨fun b u q n _ _=>k b u (hb b n) q,fun b u q n _ _=>⟨u.slots,k b u (hb b n) q⟩,fun b u q n _=>by rw [Zar (hx b n)];exact n,fun b u q _=>?_,
  fun b xs q=>by rw [Zar (hm b _ q fun z=>z)];exact q,fun b u xs q=>by rw [Zar (hm b _ q fun z=>z)];exact q,fun b ps q=>⟨#[],by rw [Zar (hm b _ q fun z=>z),q];simp⟩⟩
 by_cases hbe:b=e
 ·subst hbe;exact heo
 ·exact ⟨u,k b u hbe q⟩
theorem Un.mono(u:Un fs ex H H1 h h1)(hs:∀b∈fs,b∈fs')(hx:∀b∈ex,b∈ex'):Un fs' ex' H H1 h h1 :=
 ⟨fun b ob q n hb he=>u.keep b ob q n (fun z=>hb (hs b z)) fun z=>he (hx b z),fun _ _ q n _ he=>u.any q n fun z=>he (hx _ z),fun b ob q n he=>u.free b ob q n fun z=>he (hx b z),fun b ob q he=>u.there b ob q fun z=>he (hx b z),u.tups,u.frzs,u.tbls⟩
end
def trk(h:Heap)(H:Hp):List Addr:=(List.range h.objs.size).filter fun a=>(H a).isSome
def hidT(h:Heap)(H:Hp):Heap:=W.hideAll h (trk h H)
theorem Zjw(h:Heap)(H:Hp):(hidT h H).objs.size=h.objs.size:=W.hideAll_size _ _
theorem ZlA{h:Heap}{H:Hp}{b:Addr}{o:Obj}(e:h.get? b=some o)(n:H b=none):(hidT h H).get? b=some o :=
 W.hideAll_get _ e fun hm=>by
  have q:(H b).isSome=true:=(List.mem_filter.mp hm).2
  rw [n] at q;simp at q
theorem ZnX{h:Heap}{H:Hp}{b:Addr}{o:Obj}(e:(hidT h H).get? b=some o):h.get? b=some o∧H b=none:=by
 have e':h.get? b=some o:=W.of_hideAll (trk h H) e
 refine ⟨e',?_⟩
 cases q:H b with
 | none=>rfl
 | some x =>
  have hm:b∈trk h H:=List.mem_filter.mpr ⟨List.mem_range.mpr (Heap.lt_size e'),by simp [q]⟩
  have z:(hidT h H).get? b=none:=W.hideAll_none (trk h H) hm
  rw [z] at e;cases e
structure Mod(K:W.Frag)(mg:Str→Option Value)(base:Heap):Prop where
 kin:K.In base
 glob:base.Ns mainGlobals mg
 blt:∃mb,base.Ns builtinsNs mb∧∀x:Str,x ≠ "__name__"→mb x=bootBuiltins x
 nolimit:base.NoLimit
structure Cx where
 prog:Program
 w:World
 K:W.Frag
 mg:Str→Option Value
 base:Heap
 A:Around
 N:List Str
 s₀:Shared
 H₀:Hp
 env:Env
 outer:List Env
 stack:List Env
 ex:List Addr
 fn:Str→Bool
 calm:Bool
 pn:List (Addr×Obj)
 xe:Value→Shared→Prop
def frs(l:List Env):List Addr:=l.filterMap (·.frame)
abbrev Cx.fs(X:Cx):List Addr:=frs X.outer
def Vis(sc:Scope)(x:Str):Prop:=sc.names.lookup x=some .local∨sc.names.lookup x=some .cell∨sc.names.lookup x=some .free
def Loc(sc:Scope)(x:Str):Prop:=sc.names.lookup x=some .local∨sc.names.lookup x=some .cell
def Look(env:Env)(h:Heap)(m:Str→Option Value)(x:Str)(u:Value):Prop :=
 (env.kindOf x=some .local∧m x=some u)∨((env.kindOf x=some .cell∨env.kindOf x=some .free)∧∃c,env.cells.lookup x=some c∧h.IsCell c (some u))
structure Cx.Ok(X:Cx):Prop where
 mod:Mod X.K X.mg X.base
 kind:X.env.scope.kind=.function
 glob:X.env.globals=mainGlobals
 blt:X.env.builtins=builtinsNs
 above:X.s₀.heap.objs.size≤X.env.locals
 inj:∀x y c,X.env.cells.lookup x=some c→X.env.cells.lookup y=some c→x=y
 has:∀x,(X.env.kindOf x=some .cell∨X.env.kindOf x=some .free)→∃c,X.env.cells.lookup x=some c
 cab:∀x c,X.fn x=true→X.env.cells.lookup x=some c→X.s₀.heap.objs.size≤c
 hd:X.calm=true→X.A.handled=none
 frames:X.A.frames=some X.stack
 stk:X.stack=X.outer∨(X.stack=X.env::X.outer∧X.env.frame=some X.env.locals)
 exf:∀b∈X.ex,b≠X.env.locals∧∀x c,X.env.cells.lookup x=some c→c≠b
 bs:∀b o,X.base.get? b=some o→X.s₀.heap.get? b=some o∧X.H₀ b=none
 bsz:X.base.objs.size≤X.s₀.heap.objs.size
 noex:∀b o,X.base.get? b=some o→b∉X.ex
 exfs:∀b∈X.ex,b∉X.fs
 funs:X.s₀.heap.FunFrames X.base X.outer
 frf:∀b∈X.fs,X.H₀ b=none
structure Inv(X:Cx)(pins:List (Addr×Obj))(σ:List (Option V))(H:Hp)(s:Shared):Prop where
 ok:X.Ok
 os:s.os=X.s₀.os
 bare:AllBare s.gens
 base:Un X.fs X.ex X.H₀ H X.s₀.heap s.heap
 loc:∃m,s.heap.Ns X.env.locals m∧∀(i:Nat) (x:Str) (v:V),X.N[i]?=some x→σ[i]?=some (some v)→Vis X.env.scope x→∃u,RelV v u∧Look X.env s.heap m x u
 cell:∀x c,X.env.cells.lookup x=some c→∃v,s.heap.IsCell c v
 free:H X.env.locals=none
 freeC:∀x c,X.env.cells.lookup x=some c→H c=none
 pin:∀p∈X.pn++pins,s.heap.get? p.1=some p.2∧H p.1=none∧p.1≠X.env.locals∧p.1∉X.fs∧∀v,p.2.data≠.cell v
 hok:HOk X.prog X.w H s.heap
 len:σ.length=X.N.length
section
variable{X:Cx}{pins:List (Addr×Obj)}{σ:List (Option V)}{H H':Hp}{s:Shared}{h':Heap}
theorem Cx.Ok.nofr(ok:X.Ok){b:Addr}{o:Obj}(e:X.base.get? b=some o):b∉X.fs:=fun hb=>by
 have:=(ok.funs.mem hb).1
 rw [e] at this;cases this
theorem Inv.bs(I:Inv X pins σ H s):∀b o,X.base.get? b=some o→s.heap.get? b=some o∧H b=none:=fun b o e =>
 ⟨I.base.keep b o (I.ok.bs b o e).1 (I.ok.bs b o e).2 (I.ok.nofr e) (I.ok.noex b o e),I.base.free b o (I.ok.bs b o e).1 (I.ok.bs b o e).2 (I.ok.noex b o e)⟩
theorem Inv.bk(I:Inv X pins σ H s):∀b o,X.base.get? b=some o→s.heap.get? b=some o:=fun b o e=>(I.bs b o e).1
theorem Inv.mod(I:Inv X pins σ H s):Mod X.K X.mg X.base:=I.ok.mod
theorem Inv.kIn(I:Inv X pins σ H s):X.K.In s.heap:=I.ok.mod.kin.keeps I.bk
theorem Inv.lt(I:Inv X pins σ H s):X.env.locals<s.heap.objs.size:=let ⟨_,hn,_⟩:=I.loc;hn.lt
theorem Inv.sz(I:Inv X pins σ H s):X.s₀.heap.objs.size≤s.heap.objs.size:=Nat.le_trans I.ok.above (Nat.le_of_lt I.lt)
theorem Inv.nofs(I:Inv X pins σ H s){a:Addr}(h:s.heap.objs.size≤a):a∉X.fs:=fun hb=>by
 obtain ⟨_,o,ho,_⟩:=I.ok.funs.mem hb
 exact absurd (Nat.lt_of_lt_of_le (Heap.lt_size ho) (Nat.le_trans I.sz h)) (Nat.lt_irrefl _)
theorem Inv.cne(I:Inv X pins σ H s):∀x c,X.env.cells.lookup x=some c→c≠X.env.locals:=fun x c e z=>by
 obtain ⟨v,o,ho,hd⟩:=I.cell x c e
 obtain ⟨m,⟨o',es,ep,ho',hd',_⟩,_⟩:=I.loc
 rw [z,ho'] at ho;cases ho;rw [hd'] at hd;cases hd
theorem Inv.funs(I:Inv X pins σ H s):s.heap.FunFrames X.base X.outer:=by
 have all:∀(l:List Env),(∀b∈frs l,b∈X.fs)→X.s₀.heap.FunFrames X.base l→s.heap.FunFrames X.base l:=by
  intro l
  induction l with
  | nil=>intro _ _;trivial
  | cons env r ih =>
   intro hs hl
   obtain ⟨hk,⟨L,o,hf,hn,ho,hd⟩,hr⟩:=hl
   have hL:L∈X.fs:=hs L (by unfold frs;rw [List.filterMap_cons,hf];exact List.mem_cons_self)
   obtain ⟨sl,e⟩:=I.base.slot L o ho (I.ok.frf L hL) hL fun z=>I.ok.exfs L z hL
   exact ⟨hk,⟨L,_,hf,hn,e,hd⟩,ih (fun b hb=>hs b (by unfold frs;rw [List.filterMap_cons,hf];exact List.mem_cons_of_mem _ hb)) hr⟩
 exact all X.outer (fun _ hb=>hb) I.ok.funs
theorem Inv.stack(I:Inv X pins σ H s):s.heap.FunFrames X.base X.stack:=by
 rcases I.ok.stk with e | ⟨e,hf⟩
 ·rw [e];exact I.funs
 ·rw [e]
  obtain ⟨m,hn,_⟩:=I.loc
  refine .cons (by rw [I.ok.kind];decide) hf hn ?_ I.funs
  exact Heap.get?_none_of_le (Nat.le_trans I.ok.bsz I.ok.above)
theorem Inv.stkSub(I:Inv X pins σ H s):∀b∈frs X.stack,b∈X.env.locals::X.fs:=fun b hb=>by
 rcases I.ok.stk with e | ⟨e,hf⟩
 ·rw [e] at hb;exact List.mem_cons_of_mem _ hb
 ·rw [e] at hb
  unfold frs at hb
  rw [List.filterMap_cons,hf] at hb
  exact hb
theorem Inv.stkFree(I:Inv X pins σ H s):∀b∈frs X.stack,H b=none:=fun b hb=>by
 rcases List.mem_cons.mp (I.stkSub b hb) with e | hb
 ·rw [e];exact I.free
 ·obtain ⟨_,o,ho,_⟩:=I.ok.funs.mem hb
  exact I.base.free b o ho (I.ok.frf b hb) fun z=>I.ok.exfs b z hb
theorem Inv.step{g':Array GenState}{t':Nat}{d':Drawn}{ch:List Addr}(I:Inv X pins σ H s)
  (hch:∀b∈ch,(b∈X.ex∨X.s₀.heap.objs.size≤b)∧b≠X.env.locals∧(∀x c,X.env.cells.lookup x=some c→c≠b)∧∀p∈X.pn++pins,p.1≠b)
  (keep:∀b o,b≠X.env.locals→b∉X.fs→b∉ch→s.heap.get? b=some o→H b=none→h'.get? b=some o)
  (slot:∀b o,b≠X.env.locals→b∈X.fs→b∉ch→s.heap.get? b=some o→H b=none→∃sl,h'.get? b=some { o with slots:=sl }) (free:∀b o,b∉ch→s.heap.get? b=some o→H b=none→H' b=none)
  (there:∀b o,b∉ch→s.heap.get? b=some o→∃o',h'.get? b=some o')
  (tups:∀b xs,H b=some (.tup xs)→H' b=some (.tup xs)) (frzs:∀b o u,H b=some (.frz o u)→H' b=some (.frz o u)) (tbls:∀b ps,H b=some (.tbl ps)→∃more,H' b=some (.tbl (ps++more)))
  (ns:∀m,s.heap.Ns X.env.locals m→h'.Ns X.env.locals m) (hok:HOk X.prog X.w H' h') (hg:AllBare g') :
  Inv X pins σ H' { s with heap:=h',gens:=g',drawn:=d',toks:=t' }:=by
 have neL:∀b o,X.s₀.heap.get? b=some o→b≠X.env.locals:=fun b o e=>Nat.ne_of_lt (Nat.lt_of_lt_of_le (Heap.lt_size e) I.ok.above)
 have neC:∀b o,X.s₀.heap.get? b=some o→b∉X.ex→b∉ch:=fun b o e hx hb=>by
  rcases (hch b hb).1 with z | z
  ·exact hx z
  ·exact absurd (Nat.lt_of_lt_of_le (Heap.lt_size e) z) (Nat.lt_irrefl _)
 have cellK:∀x c,X.env.cells.lookup x=some c→∀v,s.heap.IsCell c v→h'.IsCell c v:=fun x c e v ⟨o,ho,hd⟩=>by
  have nch:c∉ch:=fun z=>(hch c z).2.2.1 x c e rfl
  by_cases hc:c∈X.fs
  ·obtain ⟨sl,q⟩:=slot c o (I.cne x c e) hc nch ho (I.freeC x c e)
   exact ⟨_,q,hd⟩
  ·exact ⟨o,keep c o (I.cne x c e) hc nch ho (I.freeC x c e),hd⟩
 refine ⟨I.ok,I.os,hg,⟨fun b o e n hb hx=>?_,fun b o e n hb hx=>?_,fun b o e n hx=>?_,fun b o e hx=>?_,fun b xs e=>tups b xs (I.base.tups b xs e),fun b o xs e=>frzs b o xs (I.base.frzs b o xs e),fun b ps e=>?_⟩,?_,fun x c e=>?_,?_,fun x c e=>?_,fun p hp=>?_,hok,I.len⟩
 ·exact keep b o (neL b o e) hb (neC b o e hx) (I.base.keep b o e n hb hx) (I.base.free b o e n hx)
 ·obtain ⟨sl,e1⟩:=I.base.slot b o e n hb hx
  obtain ⟨sl',e2⟩:=slot b _ (neL b o e) hb (neC b o e hx) e1 (I.base.free b o e n hx)
  exact ⟨sl',e2⟩
 ·obtain ⟨o',e1⟩:=I.base.there b o e hx
  exact free b o' (neC b o e hx) e1 (I.base.free b o e n hx)
 ·obtain ⟨o',e1⟩:=I.base.there b o e hx
  exact there b o' (neC b o e hx) e1
 ·obtain ⟨m1,e1⟩:=I.base.tbls b ps e
  obtain ⟨m2,e2⟩:=tbls b _ e1
  exact ⟨m1++m2,by rw [e2,Array.append_assoc]⟩
 ·obtain ⟨m,hn,hl⟩:=I.loc
  refine ⟨m,ns m hn,fun i x v e1 e2 e3=>?_⟩
  obtain ⟨u,r,l⟩:=hl i x v e1 e2 e3
  refine ⟨u,r,?_⟩
  rcases l with l | ⟨k,c,e,z⟩
  ·exact .inl l
  ·exact .inr ⟨k,c,e,cellK x c e _ z⟩
 ·obtain ⟨v,z⟩:=I.cell x c e
  exact ⟨v,cellK x c e v z⟩
 ·obtain ⟨m,⟨o,_,_,ho,_⟩,_⟩:=I.loc
  exact free _ o (fun z=>(hch _ z).2.1 rfl) ho I.free
 ·obtain ⟨v,o,ho,hd⟩:=I.cell x c e
  exact free c o (fun z=>(hch c z).2.2.1 x c e rfl) ho (I.freeC x c e)
 ·obtain ⟨e,n,ne,nf,d⟩:=I.pin p hp
  have nch:p.1∉ch:=fun z=>(hch p.1 z).2.2.2 p hp rfl
  exact ⟨keep p.1 p.2 ne nf nch e n,free p.1 p.2 nch e n,ne,nf,d⟩
theorem Inv.un{t':Nat}(I:Inv X pins σ H s)(u:Un X.fs [] H H' s.heap h')(hok:HOk X.prog X.w H' h'):Inv X pins σ H' { s with heap:=h',toks:=t' }:=by
 obtain ⟨m,⟨o,es,ep,ho,r⟩,_⟩:=id I.loc
 obtain ⟨sl,hL⟩:=u.any ho I.free (by simp)
 exact I.step (g':=s.gens) (d':=s.drawn) (ch:=[]) (fun _ z=>nomatch z) (fun b o _ hb _ e n=>u.keep b o e n hb (by simp)) (fun b o _ hb _ e n=>u.slot b o e n hb (by simp)) (fun b o _ e n=>u.free b o e n (by simp)) (fun b o _ e=>u.there b o e (by simp)) u.tups u.frzs u.tbls (fun m' hm=>by
  obtain ⟨o',es',ep',ho',r'⟩:=hm
  rw [ho] at ho';cases ho'
  exact ⟨_,es',ep',hL,r'⟩) hok I.bare
theorem Inv.call{g':Array GenState}{t':Nat}{d':Drawn}{ch:List Addr}(I:Inv X pins σ H s)(u:Un (frs X.stack) ch H H' s.heap h')(hok:HOk X.prog X.w H' h')(hg:AllBare g')
  (hch:∀b∈ch,(b∈X.ex∨X.s₀.heap.objs.size≤b)∧b≠X.env.locals∧(∀x c,X.env.cells.lookup x=some c→c≠b)∧∀p∈X.pn++pins,p.1≠b) :
  Inv X pins σ H' { s with heap:=h',gens:=g',drawn:=d',toks:=t' }:=by
 obtain ⟨m,⟨o,es,ep,ho,r⟩,_⟩:=id I.loc
 obtain ⟨sl,hL⟩:=u.any ho I.free fun z=>(hch _ z).2.1 rfl
 exact I.step (ch:=ch) hch (fun b o hL hb hc e n=>u.keep b o e n (fun z=>(List.mem_cons.mp (I.stkSub b z)).elim hL hb) hc) (fun b o _ _ hc e n=>u.any e n hc) (fun b o hc e n=>u.free b o e n hc) (fun b o hc e=>u.there b o e hc) u.tups u.frzs u.tbls (fun m' hm=>by
  obtain ⟨o',es',ep',ho',r'⟩:=hm
  rw [ho] at ho';cases ho'
  exact ⟨_,es',ep',hL,r'⟩) hok hg
theorem Inv.turned{t':Nat}{it:Addr}(I:Inv X pins σ H s)(k:∀b o,b≠it→s.heap.get? b=some o→h'.get? b=some o)(hn:H it=none)(hL:it≠X.env.locals)
  (h1:it∈X.ex∨X.s₀.heap.objs.size≤it) (h2:∀x c,X.env.cells.lookup x=some c→c≠it) (h3:∀p∈X.pn++pins,p.1≠it):Inv X pins σ H { s with heap:=h',toks:=t' }:=by
 have nit:∀b u,H b=some u→b≠it:=fun b u e z=>by rw [z,hn] at e;cases e
 refine I.step (g':=s.gens) (d':=s.drawn) (ch:=[it]) (fun b hb=>?_) (fun b o _ _ hc e _=>k b o (fun z=>hc (by simp [z])) e) (fun b o _ _ hc e _=>⟨o.slots,k b o (fun z=>hc (by simp [z])) e⟩) (fun _ _ _ _ n=>n)
  (fun b o hc e=>⟨o,k b o (fun z=>hc (by simp [z])) e⟩) (fun _ _ e=>e) (fun _ _ _ e=>e) (fun b ps e=>⟨#[],by rw [e];simp⟩) (fun m hm=>?_) (fun b u e=>?_) I.bare
 ·have e:b=it:=by simpa using hb
  subst e
  exact ⟨h1,hL,h2,h3⟩
 ·obtain ⟨o,es,ep,ho,r⟩:=hm
  exact ⟨o,es,ep,k _ o (Ne.symm hL) ho,r⟩
 ·refine (I.hok b u e).stay (fun c v hc q=>k c v ?_ q) (fun _ q=>q) fun _ _ q=>q
  rcases hc with z | z
  ·rw [z];exact nit b u e
  ·exact nit c _ z
theorem Inv.tok(I:Inv X pins σ H s)(t:Nat):Inv X pins σ H { s with toks:=t }:=I.un (h':=s.heap) (t':=t) Un.refl I.hok
theorem Inv.kept{t':Nat}(I:Inv X pins σ H s)(k:∀b u,s.heap.get? b=some u→h'.get? b=some u):Inv X pins σ H { s with heap:=h',toks:=t' }:=I.un (Un.kept k) (I.hok.kept k)
theorem Inv.laid{a:Addr}{o:HO}{t':Nat}(I:Inv X pins σ H s)(k:∀b u,s.heap.get? b=some u→h'.get? b=some u)(hp:s.heap.objs.size≤a)(new:Zcd X.prog X.w (upd H a o) h' a o) :
  Inv X pins σ (upd H a o) { s with heap:=h',toks:=t' }:=I.un (Un.laid k hp (I.hok.fresh hp)) (I.hok.laid k hp new)
theorem Inv.write{x e:Addr}{o:HO}{t':Nat}(I:Inv X pins σ H s)(mu:Mut (H x))(he:e=x∨H e=some (.own x))(k:∀b u,b≠e→s.heap.get? b=some u→h'.get? b=some u)(heo:∃u,h'.get? e=some u)
  (new:Zcd X.prog X.w (upd H x o) h' x o):Inv X pins σ (upd H x o) { s with heap:=h',toks:=t' }:=I.un (Un.write mu he k heo) (I.hok.write mu he k heo new)
theorem Inv.weak{σ':List (Option V)}(I:Inv X pins σ H s)(hl:σ'.length=σ.length)(w:∀(i:Nat) v,σ'[i]?=some (some v)→σ[i]?=some (some v)):Inv X pins σ' H s :=
 ⟨I.ok,I.os,I.bare,I.base,let ⟨m,hn,hl'⟩:=I.loc;⟨m,hn,fun i x v e1 e2 e3=>hl' i x v e1 (w i v e2) e3⟩,I.cell,I.free,I.freeC,I.pin,I.hok,hl.trans I.len⟩
theorem Inv.pins_of{pins':List (Addr×Obj)}(I:Inv X pins σ H s)(h:∀p∈pins',s.heap.get? p.1=some p.2∧H p.1=none∧p.1≠X.env.locals∧p.1∉X.fs∧∀v,p.2.data≠.cell v):Inv X pins' σ H s :=
 ⟨I.ok,I.os,I.bare,I.base,I.loc,I.cell,I.free,I.freeC,fun p hp=>(List.mem_append.mp hp).elim (fun z=>I.pin p (List.mem_append_left _ z)) (h p),I.hok,I.len⟩
theorem ZiM{N:List Str}(hN:N.Nodup){i j:Nat}{x:Str}(a:N[i]?=some x)(b:N[j]?=some x):i=j:=by
 obtain ⟨h1,e1⟩:=List.getElem?_eq_some_iff.mp a
 obtain ⟨h2,e2⟩:=List.getElem?_eq_some_iff.mp b
 exact (List.getElem_inj hN).mp (e1.trans e2.symm)
theorem Zkq{M:Model}{A:Around}{E:Value→Shared→Prop}{i:Nat}{x:Str}{v:V}{u:Value}{Q:Unit→Shared→Prop}(I:Inv X pins σ H s)(hN:X.N.Nodup)(hi:X.N[i]?=some x)(hx:Loc X.env.scope x)(r:RelV v u)
  (h:∀s',Inv X pins (σ.set i (some v)) H s'→(∃a,Heap.SameBut a s.heap s'.heap∧(a=X.env.locals∨X.env.cells.lookup x=some a))→Q () s') (hf:X.fn x=true∨X.env.scope.names.lookup x=some .local:=by first | exact .inl rfl | exact .inr rfl | assumption):wpAny M A (storeName X.env x u) Q E s:=by
 obtain ⟨m,hn,hl⟩:=id I.loc
 have hcls:(X.env.scope.kind==.class||(X.env.scope.kind==.module&&X.env.locals != X.env.globals))=false:=by rw [I.ok.kind];rfl
 have hiσ:i<σ.length:=by rw [I.len];exact (List.getElem?_eq_some_iff.mp hi).1
 have cne:=I.cne
 have tracked:∀{a:Addr} {h':Heap},(∃o,s.heap.get? a=some o∧H a=none)→Heap.SameBut a s.heap h'→HOk X.prog X.w H h':=fun {a h'} ha hs b ob e=>by
  obtain ⟨_,_,hfree⟩:=ha
  refine (I.hok b ob e).stay (fun c w' hc q=>(hs.2 c ?_).trans q) (fun _ q=>q) fun _ _ q=>q
  rintro rfl
  rcases hc with rfl | hc
  ·rw [hfree] at e;cases e
  ·rw [hfree] at hc;cases hc
 rcases hx with hk | hk
 ·refine wpAny_storeName_local hk hn (fun h' hn' hs=>?_) hcls
  obtain ⟨oL,_,_,hoL,_⟩:=id hn
  refine h _ ⟨I.ok,I.os,I.bare,⟨fun b o e n hb hx=>?_,fun b o e n hb hx=>?_,I.base.free,fun b o e hx=>?_,I.base.tups,I.base.frzs,I.base.tbls⟩,⟨_,hn',fun j y v' e1 e2 e3=>?_⟩,fun y c e=>?_,I.free,I.freeC,fun p hp=>?_,tracked ⟨oL,hoL,I.free⟩ hs,by simpa using I.len⟩ ⟨_,hs,.inl rfl⟩
  ·exact (hs.2 b (Nat.ne_of_lt (Nat.lt_of_lt_of_le (Heap.lt_size e) I.ok.above))).trans (I.base.keep b o e n hb hx)
  ·obtain ⟨sl,e1⟩:=I.base.slot b o e n hb hx
   exact ⟨sl,(hs.2 b (Nat.ne_of_lt (Nat.lt_of_lt_of_le (Heap.lt_size e) I.ok.above))).trans e1⟩
  ·obtain ⟨o',e1⟩:=I.base.there b o e hx
   exact ⟨o',(hs.2 b (Nat.ne_of_lt (Nat.lt_of_lt_of_le (Heap.lt_size e) I.ok.above))).trans e1⟩
  ·by_cases hj:j=i
   ·subst hj
    rw [hi] at e1;cases e1
    rw [List.getElem?_set_self hiσ] at e2
    cases e2
    exact ⟨u,r,.inl ⟨hk,by simp⟩⟩
   ·rw [List.getElem?_set_ne (Ne.symm hj)] at e2
    obtain ⟨u',r',q⟩:=hl j y v' e1 e2 e3
    refine ⟨u',r',?_⟩
    rcases q with ⟨k,e⟩ | ⟨k,c,e,z⟩
    ·refine .inl ⟨k,?_⟩
     have:y≠x:=fun e=>hj (ZiM hN e1 (e▸hi))
     simp [this,e]
    ·exact .inr ⟨k,c,e,z.sameBut hs (cne y c e)⟩
  ·obtain ⟨w',z⟩:=I.cell y c e
   exact ⟨w',z.sameBut hs (cne y c e)⟩
  ·obtain ⟨e,n,ne,nf,d⟩:=I.pin p hp
   exact ⟨(hs.2 p.1 ne).trans e,n,ne,nf,d⟩
 ·have hfn:X.fn x=true:=by
   rcases hf with z | z
   ·exact z
   ·rw [z] at hk;cases hk
  obtain ⟨c,hc⟩:=I.ok.has x (.inl hk)
  obtain ⟨w',z⟩:=I.cell x c hc
  refine wpAny_storeName_cell I.ok.kind hk hc z (fun h' hc' hs=>?_)
  obtain ⟨oc,hoc,hocd⟩:=id z
  refine h { s with heap:=h' } ⟨I.ok,I.os,I.bare,⟨fun b o e n hb hx=>?_,fun b o e n hb hx=>?_,I.base.free,fun b o e hx=>?_,I.base.tups,I.base.frzs,I.base.tbls⟩,⟨m,hn.sameBut hs (Ne.symm (cne x c hc)),fun j y v' e1 e2 e3=>?_⟩,fun y c' e=>?_,I.free,I.freeC,fun p hp=>?_,tracked ⟨oc,hoc,I.freeC x c hc⟩ hs,by simpa using I.len⟩ ⟨c,hs,.inr hc⟩
  ·exact (hs.2 b (Nat.ne_of_lt (Nat.lt_of_lt_of_le (Heap.lt_size e) (I.ok.cab x c hfn hc)))).trans (I.base.keep b o e n hb hx)
  ·obtain ⟨sl,e1⟩:=I.base.slot b o e n hb hx
   exact ⟨sl,(hs.2 b (Nat.ne_of_lt (Nat.lt_of_lt_of_le (Heap.lt_size e) (I.ok.cab x c hfn hc)))).trans e1⟩
  ·obtain ⟨o',e1⟩:=I.base.there b o e hx
   exact ⟨o',(hs.2 b (Nat.ne_of_lt (Nat.lt_of_lt_of_le (Heap.lt_size e) (I.ok.cab x c hfn hc)))).trans e1⟩
  ·by_cases hj:j=i
   ·subst hj
    rw [hi] at e1;cases e1
    rw [List.getElem?_set_self hiσ] at e2
    cases e2
    exact ⟨u,r,.inr ⟨.inl hk,c,hc,hc'⟩⟩
   ·rw [List.getElem?_set_ne (Ne.symm hj)] at e2
    obtain ⟨u',r',q⟩:=hl j y v' e1 e2 e3
    refine ⟨u',r',?_⟩
    rcases q with q | ⟨k,c',e,z'⟩
    ·exact .inl q
    ·refine .inr ⟨k,c',e,z'.sameBut hs ?_⟩
     rintro rfl
     exact hj (ZiM hN e1 (I.ok.inj _ _ _ e hc▸hi))
  ·by_cases hcc:c'=c
   ·subst hcc;exact ⟨_,hc'⟩
   ·obtain ⟨w2,z2⟩:=I.cell y c' e
    exact ⟨w2,z2.sameBut hs hcc⟩
  ·obtain ⟨e,n,ne,nf,d⟩:=I.pin p hp
   refine ⟨(hs.2 p.1 ?_).trans e,n,ne,nf,d⟩
   intro q
   rw [q,hoc] at e
   have q':oc=p.2:=Option.some.inj e
   exact d w' (by rw [←q'];exact hocd)
theorem Zeo{M:Model}{A:Around}{E:Value→Shared→Prop}{i:Nat}{x:Str}{v:V}{u:Value}{Q:Unit→Shared→Prop}(I:Inv X pins σ H s)(hN:X.N.Nodup)(hi:X.N[i]?=some x)(hx:Loc X.env.scope x)(r:RelV v u)
  (h:∀s',Inv X pins (σ.set i (some v)) H s'→Q () s') (hf:X.fn x=true∨X.env.scope.names.lookup x=some .local:=by first | exact .inl rfl | exact .inr rfl | assumption):wpAny M A (storeName X.env x u) Q E s :=
 Zkq I hN hi hx r (fun s' I' _=>h s' I') hf
theorem Inv.call'{s':Shared}{ch:List Addr}(I:Inv X pins σ H s)(ho:s'.os=s.os)(u:Un (frs X.stack) ch H H' s.heap s'.heap)(hok:HOk X.prog X.w H' s'.heap)(hg:AllBare s'.gens)
  (hch:∀b∈ch,(b∈X.ex∨X.s₀.heap.objs.size≤b)∧b≠X.env.locals∧(∀x c,X.env.cells.lookup x=some c→c≠b)∧∀p∈X.pn++pins,p.1≠b):Inv X pins σ H' s':=by
 obtain ⟨h',g',d',t',o'⟩:=s'
 have e:o'=s.os:=ho
 subst e
 exact I.call (g':=g') (t':=t') (d':=d') u hok hg hch
end
abbrev XK:=Value→Option Addr→Hp→Prop
abbrev St:=List (Option V)
abbrev VK:=V→Hp→Prop
abbrev TE:=St→Hp→VK→Prop
abbrev TT:=St→Hp→(Bool→Hp→Prop)→Prop
abbrev TA:=St→Hp→(List V→Hp→Prop)→Prop
structure Ends where
 nx:St→Hp→Prop
 rt:VK
 bk:St→Hp→Prop:=fun _ _=>False
 ct:St→Hp→Prop:=fun _ _=>False
abbrev TS:=Ends→St→Hp→Prop
def EP(X:Cx)(pins:List (Addr×Obj))(σ:St)(Q:VK)(u:Value)(s':Shared):Prop:=∃v H',Inv X pins σ H' s'∧RelV v u∧Q v H'
def TP(X:Cx)(pins:List (Addr×Obj))(σ:St)(Q:Bool→Hp→Prop)(b:Bool)(s':Shared):Prop:=∃H',Inv X pins σ H' s'∧Q b H'
def AP(X:Cx)(pins:List (Addr×Obj))(σ:St)(Q:List V→Hp→Prop)(us:List Value)(s':Shared):Prop:=∃vs H',Inv X pins σ H' s'∧Vals vs us∧Q vs H'
def SP(X:Cx)(pins:List (Addr×Obj))(D:Ends)(f:Flow)(s':Shared):Prop :=
 match f with
 | .next=>∃σ' H',Inv X pins σ' H' s'∧D.nx σ' H'
 | .brk=>∃σ' H',Inv X pins σ' H' s'∧D.bk σ' H'
 | .cont=>∃σ' H',Inv X pins σ' H' s'∧D.ct σ' H'
 | .ret u=>∃v σ' H',Inv X pins σ' H' s'∧RelV v u∧D.rt v H'
def PE(X:Cx)(e:Expr)(t:TE):Prop :=
 ∀(pins:List (Addr×Obj)) (s:Shared) (σ:St) (H:Hp) (Q:VK),Inv X pins σ H s→t σ H Q→wpAny (model X.prog X.w) X.A (eval e X.env) (EP X pins σ Q) X.xe s
def PT(X:Cx)(e:Expr)(t:TT):Prop :=
 ∀(pins:List (Addr×Obj)) (s:Shared) (σ:St) (H:Hp) (Q:Bool→Hp→Prop),Inv X pins σ H s→t σ H Q→wpAny (model X.prog X.w) X.A (isTrue e X.env (eval e X.env)) (TP X pins σ Q) X.xe s
def PW(X:Cx)(e:Expr)(t:TT):Prop :=
 ∀(whole:Sem Value) (pins:List (Addr×Obj)) (s:Shared) (σ:St) (H:Hp) (Q:Bool→Hp→Prop),Inv X pins σ H s→t σ H Q→wpAny (model X.prog X.w) X.A (isTrue e X.env whole) (TP X pins σ Q) X.xe s
theorem PW.pt{X:Cx}{e:Expr}{t:TT}(h:PW X e t):PT X e t:=h _
def PA(X:Cx)(es:List Expr)(t:TA):Prop :=
 ∀(pos:Pos) (pins:List (Addr×Obj)) (s:Shared) (σ:St) (H:Hp) (Q:List V→Hp→Prop),Inv X pins σ H s→t σ H Q→wpAny (model X.prog X.w) X.A (spliced (backTo pos (starEach es X.env))) (AP X pins σ Q) X.xe s
def PS(X:Cx)(st:Stmt)(t:TS):Prop :=
 ∀(pins:List (Addr×Obj)) (s:Shared) (σ:St) (H:Hp) (D:Ends),Inv X pins σ H s→t D σ H→wpAny (model X.prog X.w) X.A (exec st X.env) (SP X pins D) X.xe s
def PSs(X:Cx)(st:List Stmt)(t:TS):Prop :=
 ∀(pins:List (Addr×Obj)) (s:Shared) (σ:St) (H:Hp) (D:Ends),Inv X pins σ H s→t D σ H→wpAny (model X.prog X.w) X.A (execs st X.env) (SP X pins D) X.xe s
theorem thn{α:Type}{t:Sem α}{Q Q':α→Shared→Prop}{M:Model}{A:Around}{E:Value→Shared→Prop}{s:Shared}(h:wpAny M A t Q E s)(hQ:∀a s,Q a s→Q' a s):wpAny M A t Q' E s:=wpAny_mono h hQ fun _ _ x=>x
section
variable{X:Cx}
def tVar(i:Nat):TE:=fun σ H Q=>∃v,σ[i]?=some (some v)∧Q v H
def tC(v:V):TE:=fun _ H Q=>Q v H
theorem ZdC{i:Nat}{x:Str}{pos:Pos}(hN:X.N[i]?=some x)(hv:Vis X.env.scope x)(hd:(x==("__debug__" : Str))=false:=by decide)(hcd:(x==("__classdict__" : Str))=false:=by decide):PE X (.Name x pos) (tVar i):=by
 intro pins s σ H Q I h
 obtain ⟨v,e,h⟩:=h
 obtain ⟨m,hn,hl⟩:=I.loc
 obtain ⟨u,r,l⟩:=hl i x v hN e hv
 have fin:EP X pins σ Q u s:=⟨v,H,I,r,h⟩
 rcases l with ⟨hk,hm⟩ | ⟨hk,c,hc,hcell⟩
 ·exact wpAny_Name (wpAny_loadName_local I.ok.kind hk hn hm fin) hd
 ·rcases hk with hk | hk
  ·exact wpAny_Name (wpAny_loadName_cell I.ok.kind hk hc hcell fin) hd
  ·exact wpAny_Name (wpAny_loadName_free I.ok.kind hk hc hcell fin hcd) hd
theorem ZmB{i j pos}:PE X (.Constant (.int i) j pos) (tC (.int i)):=fun _ _ _ H _ I h=>wpAny_Constant_int ⟨.int i,H,I.tok _,⟨_,rfl⟩,h⟩
theorem ZqM{b j pos}:PE X (.Constant (.bool b) j pos) (tC (.bl b)):=fun _ _ _ H _ I h=>Constant_bool ⟨.bl b,H,I,rfl,h⟩
theorem Zms{x j pos}:PE X (.Constant (.str x) j pos) (tC (.str x)):=fun _ _ _ H _ I h=>Calls.Constant_str ⟨.str x,H,I.tok _,⟨_,rfl⟩,h⟩
def Gl(X:Cx)(x:Str):Prop:=X.env.kindOf x=some .globalImplicit
theorem ZgU{E:Value→Shared→Prop}{pins:List (Addr×Obj)}{s:Shared}{σ:St}{H:Hp}{x:Str}{u:Value}{pos:Pos}{Q:Value→Shared→Prop}(I:Inv X pins σ H s)(hg:Gl X x)(hm:X.mg x=some u)(h:Q u s)
  (hd:(x==("__debug__" : Str))=false:=by decide):wpAny (model X.prog X.w) X.A (eval (.Name x pos) X.env) Q E s :=
 Calls.Name_function_global I.ok.kind hg (Calls.loadGlobal_global (by rw [I.ok.glob];exact I.mod.glob.keeps I.bk) hm h) hd
theorem Zhh{E:Value→Shared→Prop}{pins:List (Addr×Obj)}{s:Shared}{σ:St}{H:Hp}{x:Str}{u:Value}{pos:Pos}{Q:Value→Shared→Prop}(I:Inv X pins σ H s)(hg:Gl X x)(hm:X.mg x=none)(hv:bootBuiltins x=some u)(h:Q u s)
  (hn:x ≠ "__name__" := by decide) (hd:(x==("__debug__" : Str))=false:=by decide):wpAny (model X.prog X.w) X.A (eval (.Name x pos) X.env) Q E s:=by
 obtain ⟨mb,h1,h2⟩:=I.mod.blt
 exact Calls.Name_function_global I.ok.kind hg (Calls.loadGlobal_builtin (by rw [I.ok.glob];exact I.mod.glob.keeps I.bk) hm (by rw [I.ok.blt];exact h1.keeps I.bk) ((h2 x hn).trans hv) h) hd
theorem Zfo{x:Str}{v:V}{u:Value}{pos:Pos}(hg:Gl X x)(hm:X.mg x=some u)(r:RelV v u)(hd:(x==("__debug__" : Str))=false:=by decide):PE X (.Name x pos) (tC v) :=
 fun _ _ _ H _ I h=>ZgU I hg hm ⟨v,H,I,r,h⟩ hd
theorem ZnF{x:Str}{v:V}{u:Value}{pos:Pos}(hg:Gl X x)(hm:X.mg x=none)(hv:bootBuiltins x=some u)(r:RelV v u)(hn:x ≠ "__name__" := by decide)(hd:(x==("__debug__" : Str))=false:=by decide):PE X (.Name x pos) (tC v) :=
 fun _ _ _ H _ I h=>Zhh I hg hm hv ⟨v,H,I,r,h⟩ hn hd
variable{a b:Expr}{ta tb:TE}{pos:Pos}
def tB(t:TE):TT:=fun σ H Q=>t σ H fun x H1=>∃c,x=.bl c∧Q c H1
theorem Zqj{e:Expr}{t:TE}(h:PE X e t)(he:∀whole,isTrue e X.env whole=(do let v ←whole;standAt e.pos;holding [v] (truthy v)):=by intro _;rfl):PT X e (tB t):=by
 intro pins s σ H Q I hw
 refine isTrue_plain (thn (h pins s σ H _ I hw) fun v s1 ⟨x,H1,I1,r1,q1⟩=>?_) (he _)
 obtain ⟨d,rfl,q⟩:=q1
 cases r1
 exact wpAny_truthy_bool ⟨H1,I1,q⟩
variable{tA tB':TT}{rest:List Expr}
def tAnd(t u:TT):TT:=fun σ H Q=>t σ H fun c H1=>if c=true then u σ H1 Q else Q false H1
def tOr(t u:TT):TT:=fun σ H Q=>t σ H fun c H1=>if c=true then Q true H1 else u σ H1 Q
def tNot(t:TT):TT:=fun σ H Q=>t σ H fun c H1=>Q (!c) H1
theorem Znq(ha:PT X a tA):PW X (.BoolOp .And [a] pos) tA:=by
 intro wh pins s σ H Q I h
 refine isTrue_and (thn (ha pins s σ H Q I h) fun c s1 e=>?_)
 cases c with
 | true=>exact isTrue_and_nil e
 | false=>exact e
theorem ZpR(ha:PT X a tA):PW X (.BoolOp .Or [a] pos) tA:=by
 intro wh pins s σ H Q I h
 refine isTrue_or (thn (ha pins s σ H Q I h) fun c s1 e=>?_)
 cases c with
 | false=>exact isTrue_or_nil e
 | true=>exact e
theorem Zpf(ha:PT X a tA)(hb:PW X (.BoolOp .And (b::rest) pos) tB'):PW X (.BoolOp .And (a::b::rest) pos) (tAnd tA tB'):=by
 intro wh pins s σ H Q I h
 refine isTrue_and (thn (ha pins s σ H _ I h) fun c s1 ⟨H1,I1,q1⟩=>?_)
 cases c with
 | true=>exact hb wh pins s1 σ H1 Q I1 q1
 | false=>exact ⟨H1,I1,q1⟩
theorem ZqV(ha:PT X a tA)(hb:PW X (.BoolOp .Or (b::rest) pos) tB'):PW X (.BoolOp .Or (a::b::rest) pos) (tOr tA tB'):=by
 intro wh pins s σ H Q I h
 refine isTrue_or (thn (ha pins s σ H _ I h) fun c s1 ⟨H1,I1,q1⟩=>?_)
 cases c with
 | true=>exact ⟨H1,I1,q1⟩
 | false=>exact hb wh pins s1 σ H1 Q I1 q1
theorem Zp6(ha:PT X a tA):PT X (.UnaryOp .Not a pos) (tNot tA):=by
 intro pins s σ H Q I h
 exact isTrue_not (ha pins s σ H (fun c H1=>Q (!c) H1) I h)
def ZnE(ta tb:TE):TE:=fun σ H Q=>ta σ H fun x H1=>∃c,x=.bl c∧if c=true then tb σ H1 Q else Q (.bl false) H1
def tOrV(ta tb:TE):TE:=fun σ H Q=>ta σ H fun x H1=>∃c,x=.bl c∧if c=true then Q (.bl true) H1 else tb σ H1 Q
def ZmQ(ta:TE):TE:=fun σ H Q=>ta σ H fun x H1=>∃c,x=.bl c∧Q (.bl (!c)) H1
theorem Zqd{op}{t:TE}(h:PE X a t):PE X (.BoolOp op [a] pos) t:=fun pins s σ H Q I hw=>BoolOp_one (h pins s σ H Q I hw)
theorem Zoy(ha:PE X a ta)(hb:PE X (.BoolOp .And (b::rest) pos) tb):PE X (.BoolOp .And (a::b::rest) pos) (ZnE ta tb):=by
 intro pins s σ H Q I h
 refine BoolOp_and (thn (ha pins s σ H _ I h) fun v s1 ⟨x,H1,I1,r1,q1⟩=>?_)
 obtain ⟨c,rfl,q1⟩:=q1
 cases r1
 refine wpAny_truthy_bool ?_
 cases c with
 | true=>exact hb pins s1 σ H1 Q I1 q1
 | false=>exact ⟨.bl false,H1,I1,rfl,q1⟩
theorem ZqO(ha:PE X a ta)(hb:PE X (.BoolOp .Or (b::rest) pos) tb):PE X (.BoolOp .Or (a::b::rest) pos) (tOrV ta tb):=by
 intro pins s σ H Q I h
 refine BoolOp_or (thn (ha pins s σ H _ I h) fun v s1 ⟨x,H1,I1,r1,q1⟩=>?_)
 obtain ⟨c,rfl,q1⟩:=q1
 cases r1
 refine wpAny_truthy_bool ?_
 cases c with
 | false=>exact hb pins s1 σ H1 Q I1 q1
 | true=>exact ⟨.bl true,H1,I1,rfl,q1⟩
theorem Zpy(ha:PE X a ta):PE X (.UnaryOp .Not a pos) (ZmQ ta):=by
 intro pins s σ H Q I h
 refine UnaryOp_ (thn (ha pins s σ H _ I h) fun v s1 ⟨x,H1,I1,r1,q1⟩=>?_)
 obtain ⟨c,rfl,q1⟩:=q1
 cases r1
 exact not_of (wpAny_truthy_bool ⟨.bl (!c),H1,I1,rfl,q1⟩)
def tIf(t:TT)(ta tb:TE):TE:=fun σ H Q=>t σ H fun c H1=>if c=true then ta σ H1 Q else tb σ H1 Q
theorem Zk5{c:Expr}(hc:PT X c tA)(ha:PE X a ta)(hb:PE X b tb):PE X (.IfExp c a b pos) (tIf tA ta tb):=by
 intro pins s σ H Q I h
 refine wpAny_IfExp (thn (hc pins s σ H _ I h) fun d s1 ⟨H1,I1,q1⟩=>?_)
 cases d with
 | true=>exact ha pins s1 σ H1 Q I1 q1
 | false=>exact hb pins s1 σ H1 Q I1 q1
end
def SqL(K:W.Frag)(H:Hp)(a:Addr)(xs:List V):Prop :=
 Rd H a (.lst xs) ∨
  ∃(o:Obj) (its:Array Value) (n:Nat),K.lookup a=some o∧o.cls=.type "list"∧o.dict=none∧o.data=.seq its n∧its.size≤sizeLine∧Vals xs its.toList
def SqT(K:W.Frag)(H:Hp)(a:Addr)(xs:List V):Prop :=
 Rd H a (.tup xs) ∨
  ∃(o:Obj) (its:Array Value) (n:Nat),K.lookup a=some o∧o.cls=.type "tuple"∧o.data=.seq its n∧its.size≤sizeLine∧Vals xs its.toList
def absV:Value→Option V
 | .none=>some .non
 | .bool b=>some (.bl b)
 | .int i _=>some (.int i)
 | .str x _=>some (.str x)
 | .bytes b _=>some (.byt b)
 | .float b _=>some (.flt b)
 | .ref a=>some (.ref a)
 | .type n=>some (.ty n)
 | _=>none
theorem RelV.abs{x:V}{u:Value}(r:RelV x u):absV u=some x:=by
 cases x with
 | non=>cases r;rfl
 | bl _=>cases r;rfl
 | int _=>obtain ⟨t,rfl⟩:=r;rfl
 | str _=>obtain ⟨t,rfl⟩:=r;rfl
 | byt _=>obtain ⟨t,rfl⟩:=r;rfl
 | flt _=>obtain ⟨t,rfl⟩:=r;rfl
 | ref _=>cases r;rfl
 | ty _=>cases r;rfl
theorem RelV.inj{x y:V}{u:Value}(r:RelV x u)(q:RelV y u):x=y:=Option.some.inj (r.abs.symm.trans q.abs)
theorem Vals.inj:∀{xs ys:List V} {us:List Value},Vals xs us→Vals ys us→xs=ys
 | _,_,_,.nil,.nil=>rfl
 | _,_,_,.cons r t,.cons r' t'=>by rw [r.inj r',Vals.inj t t']
section
variable{X:Cx}{pins:List (Addr×Obj)}{σ:St}{H:Hp}{s:Shared}{a:Addr}{xs ys:List V}
theorem SqL.of{K:W.Frag}(h:H a=some (.lst xs)):SqL K H a xs:=.inl (.inl h)
theorem SqT.of{K:W.Frag}(h:H a=some (.tup xs)):SqT K H a xs:=.inl (.inl h)
theorem Inv.list(I:Inv X pins σ H s)(h:SqL X.K H a xs):∃its:List Value,Vals xs its∧PlainL s.heap a its.toArray∧xs.length≤sizeLine:=by
 rcases h with h | ⟨o,its,n,hk,hc,hd,hs,hz,r⟩
 ·obtain ⟨z,its,n,r,e⟩:=h.ok I.hok
  exact ⟨its,r,⟨_,n,e,rfl,rfl,rfl⟩,z⟩
 ·refine ⟨its.toList,r,⟨o,n,I.kIn a o hk,hc,hd,by simpa using hs⟩,?_⟩
  have e:=r.length
  simp only [Array.length_toList] at e
  omega
theorem Inv.tuple(I:Inv X pins σ H s)(h:SqT X.K H a xs):∃its:List Value,Vals xs its∧IsTup s.heap a its.toArray∧xs.length≤sizeLine:=by
 rcases h with h | ⟨o,its,n,hk,hc,hs,hz,r⟩
 ·obtain ⟨z,its,r,p⟩:=h.ok I.hok
  exact ⟨its,r,p,z⟩
 ·refine ⟨its.toList,r,⟨o,I.kIn a o hk,hc,n,by simpa using hs⟩,?_⟩
  have e:=r.length
  simp only [Array.length_toList] at e
  omega
theorem Inv.list_inj(I:Inv X pins σ H s)(h:SqL X.K H a xs)(h':SqL X.K H a ys):xs=ys:=by
 obtain ⟨its,r,⟨o,n,e,_,_,d⟩,_⟩:=I.list h
 obtain ⟨its',r',⟨o',n',e',_,_,d'⟩,_⟩:=I.list h'
 rw [e] at e';cases e'
 rw [d] at d'
 injection d' with d1 _
 have:its=its':=by simpa using congrArg Array.toList d1
 subst this
 exact r.inj r'
theorem Inv.tuple_inj(I:Inv X pins σ H s)(h:SqT X.K H a xs)(h':SqT X.K H a ys):xs=ys:=by
 obtain ⟨its,r,⟨o,e,_,n,d⟩,_⟩:=I.tuple h
 obtain ⟨its',r',⟨o',e',_,n',d'⟩,_⟩:=I.tuple h'
 rw [e] at e';cases e'
 rw [d] at d'
 injection d' with d1 _
 have:its=its':=by simpa using congrArg Array.toList d1
 subst this
 exact r.inj r'
end
section
variable{X:Cx}{st:Stmt}{rest:List Stmt}{t u:TS}{e:Expr}{te:TE}{pos:Pos}
def ZkV:TS:=fun D σ H=>D.nx σ H
def tSeq(t u:TS):TS:=fun D σ H=>t { D with nx:=u D } σ H
theorem Zkd:PSs X [] ZkV:=fun _ _ σ H _ I h=>wpAny_execs_nil ⟨σ,H,I,h⟩
theorem ZcR(h1:PS X st t)(h2:PSs X rest u):PSs X (st::rest) (tSeq t u):=by
 intro pins s σ H D I h
 refine wpAny_execs_cons (thn (h1 pins s σ H { D with nx:=u D } I h) fun f s1 q=>?_)
 cases f with
 | next =>
  obtain ⟨σ',H',I',q⟩:=q
  exact h2 pins s1 σ' H' D I' q
 | ret v=>exact q
 | brk=>exact q
 | cont=>exact q
theorem Zew(h1:PS X st t):PSs X [st] t:=by
 intro pins s σ H D I h
 refine wpAny_execs_cons (thn (h1 pins s σ H D I h) fun f s1 q=>?_)
 cases f with
 | next=>exact wpAny_execs_nil q
 | ret v=>exact q
 | brk=>exact q
 | cont=>exact q
theorem Inv.quiet{pins:List (Addr×Obj)}{σ:St}{H:Hp}{s:Shared}(I:Inv X pins σ H s):interactive X.env=false:=by simp [interactive,I.ok.kind]
def ZfR(te:TE):TS:=fun D σ H=>te σ H fun _ H1=>D.nx σ H1
theorem Zer(he:PE X e te)(hs:swapsWith e none pos.line X.env=pure false:=by rfl):PS X (.Expr e pos) (ZfR te):=by
 intro pins s σ H D I h
 exact wpAny_Expr_any (thn (he pins s σ H _ I h) fun v s1 ⟨x,H1,I1,r1,q1⟩=>⟨σ,H1,I1,q1⟩) I.quiet hs
def tRet(te:TE):TS:=fun D σ H=>te σ H D.rt
theorem Zkz(he:PE X e te):PS X (.Return (some e) pos) (tRet te):=by
 intro pins s σ H D I h
 exact wpAny_Return_some (thn (he pins s σ H _ I h) fun v s1 ⟨x,H1,I1,r1,q1⟩=>⟨x,σ,H1,I1,r1,q1⟩)
def tIfS(c:TT)(t u:TS):TS:=fun D σ H=>c σ H fun b H1=>if b=true then t D σ H1 else u D σ H1
theorem ZpC{c:Expr}{a b:List Stmt}{tc:TT}(hc:PT X c tc)(ha:PSs X a t)(hb:PSs X b u):PS X (.If c a b pos) (tIfS tc t u):=by
 intro pins s σ H D I h
 refine wpAny_If (thn (hc pins s σ H _ I h) fun d s1 ⟨H1,I1,q1⟩=>?_)
 cases d with
 | true=>exact ha pins s1 σ H1 D I1 q1
 | false=>exact hb pins s1 σ H1 D I1 q1
end
abbrev TG:=V→St→Hp→(St→Hp→Prop)→Prop
def PG(X:Cx)(target:Expr)(t:TG):Prop :=
 ∀(pins:List (Addr×Obj)) (s:Shared) (σ:St) (H:Hp) (v:V) (u:Value) (Q:St→Hp→Prop),Inv X pins σ H s→RelV v u→t v σ H Q →
  wpAny (model X.prog X.w) X.A (assign target X.env u) (fun _ s'=>∃σ' H',Inv X pins σ' H' s'∧Q σ' H') X.xe s
section
variable{X:Cx}{pos:Pos}
def ZeE(i:Nat):TG:=fun v σ H Q=>Q (σ.set i (some v)) H
theorem Zka{i:Nat}{x:Str}(hN:X.N.Nodup)(hi:X.N[i]?=some x)(hx:Loc X.env.scope x)(hf:X.fn x=true∨X.env.scope.names.lookup x=some .local:=by first | exact .inl rfl | exact .inr rfl | assumption):PG X (.Name x pos) (ZeE i):=by
 intro pins s σ H v u Q I r h
 exact wpAny_assign_Name (Zeo I hN hi hx r (fun s' I'=>⟨_,H,I',h⟩) hf)
def tAsg(te:TE)(g:TG):TS:=fun D σ H=>te σ H fun x H1=>g x σ H1 D.nx
theorem Zkl{i:Nat}{x:Str}{e:Expr}{te:TE}{pos':Pos}(hN:X.N.Nodup)(hi:X.N[i]?=some x)(hx:Loc X.env.scope x)(he:PE X e te)(hs:swapsWith e (some (.Name x pos')) pos.line X.env=pure false:=by rfl)(hf:X.fn x=true∨X.env.scope.names.lookup x=some .local:=by first | exact .inl rfl | exact .inr rfl | assumption) :
  PS X (.Assign [.Name x pos'] e pos) (tAsg te (ZeE i)):=by
 intro pins s σ H D I h
 refine wpAny_Assign_Name (thn (he pins s σ H _ I h) fun v s1 ⟨y,H1,I1,r1,q1⟩=>?_) hs
 exact Zeo I1 hN hi hx r1 (fun s2 I2=>⟨_,H1,I2,q1⟩) hf
def tPar(i j:Nat)(ta:TA):TS:=fun D σ H=>ta σ H fun vs H1=>∃v w,vs=[v,w]∧D.nx ((σ.set i (some v)).set j (some w)) H1
theorem Zqh{i j:Nat}{x y:Str}{a b:Expr}{ta:TA}{px py pt:Pos}{kt k2 pt2}(hc:X.calm=true)(hN:X.N.Nodup)(hi:X.N[i]?=some x)(hj:X.N[j]?=some y)(hij:i≠j)
  (hx:X.env.scope.names.lookup x=some .local) (hy:X.env.scope.names.lookup y=some .local) (ha:PA X [a,b] ta)
  (hw:swappedStores [.Tuple [.Name x px,.Name y py] kt pt] (.Tuple [a,b] k2 pt2) X.env=pure (some [x,y]))
  (hs:swapsWithSole [.Tuple [.Name x px,.Name y py] kt pt] (.Tuple [a,b] k2 pt2) pos.line X.env=pure false:=by rfl) :
  PS X (.Assign [.Tuple [.Name x px,.Name y py] kt pt] (.Tuple [a,b] k2 pt2) pos) (tPar i j ta):=by
 intro pins s σ H D I h
 rw [exec_Assign_arm]
 refine wpAny_bind (wpAny_standAt ?_)
 rw [hs]
 refine wpAny_bind (wpAny_pure ?_)
 rw [if_neg (by decide)]
 refine wpAny_bind (Tuple_ (thn (ha _ pins s σ H _ I h) fun us s1 ⟨vs,H1,I1,r1,q1⟩=>?_))
 obtain ⟨v,w,e1,q1⟩:=q1
 subst e1
 obtain ⟨u1,u2,rfl,rv,rw'⟩ : ∃u1 u2,us=[u1,u2]∧RelV v u1∧RelV w u2:=by
  cases r1 with
  | cons p q =>
   cases q with
   | cons p' q' =>
    cases q'
    exact ⟨_,_,rfl,p,p'⟩
 refine wpAny_newObj_type ?_ (by show 2≤sizeLine;decide)
 have I2:Inv X pins σ H1 { s1 with heap:=s1.heap.push { cls:=.type "tuple", data:=.seq [u1,u2].toArray } }:=I1.kept (t':=s1.toks) fun b o e=>Heap.get?_push_of_some _ e
 rw [hw]
 refine wpAny_bind (wpAny_pure ?_)
 show wpAny (model X.prog X.w) X.A (do rule "assign.swapped-stores"; let items ←unpackItems (.ref s1.heap.objs.size) 2 none;assignInOrder [fun v=>bindName X.env y v,fun v=>bindName X.env x v] items.reverse;pure Flow.next) _ _ _
 refine wpAny_bind (wpAny_rule (wpAny_bind (unpackItems_tuple (items:=#[u1,u2]) (I.ok.hd hc) (IsTup.new s1.heap _) fun h' hx'=>?_)))
 have I3:=I2.kept (h':=h') (t':=s1.toks) fun b o e=>hx' b o (Nat.ne_of_lt (Heap.lt_size e)) e
 show wpAny _ _ (assignInOrder [fun v=>bindName X.env y v,fun v=>bindName X.env x v] [u2,u1] >>= fun _=>pure Flow.next) _ _ _
 refine wpAny_bind (assignInOrder_cons (wpAny_bindName (Zeo I3 hN hj (.inl hy) rw' (fun s2 I4=>?_) (.inr hy))))
 refine assignInOrder_cons (wpAny_bindName (Zeo I4 hN hi (.inl hx) rv (fun s3 I5=>assignInOrder_nil (wpAny_pure ?_)) (.inr hx)))
 rw [List.set_comm _ _ (Ne.symm hij)] at I5
 exact ⟨_,H1,I5,q1⟩
end
section
variable{X:Cx}{pos:Pos}
def Ziy(c:TT)(tb:TS):TS:=fun D σ H=>∃W:Nat→St→Hp→Prop,(∃m,W m σ H)∧∀m σ H,W m σ H →
 c σ H fun b H1=>if b=true then ∃N:St→Hp→Prop,(∀σ' H',N σ' H'→∃m',m'<m∧W m' σ' H')∧tb { D with nx:=N,ct:=N,bk:=D.nx } σ H1 else D.nx σ H1
theorem ZlZ{c:Expr}{body:List Stmt}{tc:TT}{tb:TS}(hp:PassesOwn (model X.prog X.w) X.A X.env X.xe)(hc:PT X c tc)(hb:PSs X body tb):PS X (.While c body [] pos) (Ziy tc tb):=by
 intro pins s σ H D I h
 obtain ⟨W,⟨m0,w0⟩,turn⟩:=h
 refine wpAny_While (codeAny_whileLoop (fun n s'=>∃σ' H',Inv X pins σ' H' s'∧W n σ' H') ?_ m0 ⟨σ,H,I,w0⟩)
 rintro n s1 ⟨σ1,H1,I1,w1⟩
 refine wpAny_passesOwn hp (thn (hc pins s1 σ1 H1 _ I1 (turn n σ1 H1 w1)) fun b s2 ⟨H2,I2,q2⟩=>?_)
 cases b with
 | true =>
  obtain ⟨N,hN,q2⟩:=q2
  rw [if_pos rfl]
  refine wpAny_passesOwn hp (thn (hb pins s2 σ1 H2 _ I2 q2) fun f s3 q3=>?_)
  cases f with
  | next =>
   obtain ⟨σ3,H3,I3,n3⟩:=q3
   obtain ⟨m',hm,w3⟩:=hN σ3 H3 n3
   exact ⟨m',hm,σ3,H3,I3,w3⟩
  | cont =>
   obtain ⟨σ3,H3,I3,n3⟩:=q3
   obtain ⟨m',hm,w3⟩:=hN σ3 H3 n3
   exact ⟨m',hm,σ3,H3,I3,w3⟩
  | brk=>exact q3
  | ret v=>exact q3
 | false =>
  rw [if_neg Bool.false_ne_true]
  exact wpAny_execs_nil ⟨σ1,H2,I2,q2⟩
end
structure It where
 go:Nat→Hp→Prop
 yld:Nat→Hp→V→Hp→Prop
 stop:Nat→Hp→Prop
def FpOk(X:Cx)(pins:List (Addr×Obj))(H:Hp)(b:Addr):Prop :=
 H b=none∧b≠X.env.locals∧b∉X.fs∧(b∈X.ex∨X.s₀.heap.objs.size≤b)∧(∀x c,X.env.cells.lookup x=some c→c≠b)∧∀p∈X.pn++pins,p.1≠b
theorem Inv.fpOk{X:Cx}{pins:List (Addr×Obj)}{σ:St}{H H':Hp}{s:Shared}{b:Addr}(I:Inv X pins σ H s)(hb:s.heap.objs.size≤b)(hn:H' b=none):FpOk X pins H' b:=by
 refine ⟨hn,Nat.ne_of_gt (Nat.lt_of_lt_of_le I.lt hb),I.nofs hb,.inr (Nat.le_trans I.sz hb),fun x c e z=>?_,fun p hp z=>?_⟩
 ·obtain ⟨v,q⟩:=I.cell x c e
  exact absurd (Nat.lt_of_lt_of_le q.lt (by rw [z];exact hb)) (Nat.lt_irrefl _)
 ·exact absurd (Nat.lt_of_lt_of_le (Heap.lt_size (I.pin p hp).1) (by rw [z];exact hb)) (Nat.lt_irrefl _)
structure Turn(P:Program)(w:World)(K:W.Frag)(tg:Expr)(J:It)(fp:List Addr)(it:Addr)(tn:Nat→Heap→Prop):Prop where
 mem:it∈fp
 obj:∀i h,tn i h→∀b∈fp,∃o,h.get? b=some o∧∀v,o.data≠.cell v
 keep:∀i h h',tn i h→(∀b∈fp,∀o,h.get? b=some o→h'.get? b=some o)→tn i h'
 item:∀(X:Cx),X.prog=P→X.w=w→X.K=K→X.calm=true→∀(i:Nat) (pins:List (Addr×Obj)) (s:Shared) (σ:St) (H:Hp) (E:Value→Shared→Prop),Inv X pins σ H s→(∀b∈fp,FpOk X pins H b)→tn i s.heap→J.go i H →
  wpAny (model P w) X.A (pyNext (.ref it)) (fun r s1=>∃u,r=some u ∧
   wpAny (model P w) X.A (letOwnedTupleGo tg (.ref it) u) (fun _ s2=>∃x H',Inv X pins σ H' s2∧RelV x u∧J.yld i H x H'∧tn (i+1) s2.heap∧∀b∈fp,H' b=none) E s1) E s
 done:∀(X:Cx),X.prog=P→X.w=w→X.K=K→X.calm=true→∀(i:Nat) (pins:List (Addr×Obj)) (s:Shared) (σ:St) (H:Hp) (E:Value→Shared→Prop),Inv X pins σ H s→(∀b∈fp,FpOk X pins H b)→tn i s.heap→J.stop i H →
  wpAny (model P w) X.A (pyNext (.ref it)) (fun r s1=>r=none∧Inv X pins σ H s1) E s
 self:∀(A:Around) (i:Nat) (s:Shared) (Q:Value→Shared→Prop) (E:Value→Shared→Prop),tn i s.heap→Q (.ref it) s→wpAny (model P w) A (pyIter (.ref it)) Q E s
abbrev TI:=St→Hp→(It→Hp→Prop)→Prop
def PIE(X:Cx)(pins:List (Addr×Obj))(σ:St)(tg:Expr)(R:It→Hp→Prop)(itv:Value)(s2:Shared):Prop :=
 ∃(it:Addr) (fp:List Addr) (tn:Nat→Heap→Prop) (J:It) (H':Hp),itv=.ref it∧Inv X pins σ H' s2∧Turn X.prog X.w X.K tg J fp it tn∧tn 0 s2.heap∧(∀b∈fp,FpOk X pins H' b)∧R J H'
def PI(X:Cx)(tg iter:Expr)(wi:TI):Prop :=
 ∀(pins:List (Addr×Obj)) (s:Shared) (σ:St) (H:Hp) (R:It→Hp→Prop),Inv X pins σ H s→wi σ H R →
  wpAny (model X.prog X.w) X.A (eval iter X.env) (fun v s1=>wpAny (model X.prog X.w) X.A (pyIter v) (PIE X pins σ tg R) X.xe s1) X.xe s
theorem Zlo{M:Model}{A:Around}{E:Value→Shared→Prop}{s:Shared}{tg:Expr}{it:Addr}{u:Value}{o:Obj}{n:String}{vs:Array Value}{Q:Unit→Shared→Prop}(ho:s.heap.get? it=some o)(hc:o.cls=.type n)(hd:o.data=.fields vs)
  (hn:["enumerate", "zip", "dict_itemiterator", "dict_reverseitemiterator", "odict_iterator", "itertools.zip_longest", "itertools.pairwise"].contains n=false) (hQ:Q () s):wpAny M A (letOwnedTupleGo tg (.ref it) u) Q E s:=by
 unfold letOwnedTupleGo
 cases tg<;>first
  | exact wpAny_pure hQ
  | (cases u<;>first
    | exact wpAny_pure hQ
    | (refine wpAny_bind (wpAny_load ho ?_)
       rw [hc,hd]
       show wpAny M A (if (["enumerate", "zip", "dict_itemiterator", "dict_reverseitemiterator", "odict_iterator", "itertools.zip_longest", "itertools.pairwise"].contains n&&vs[0]?==some (rawInt _))=true then _ else _) Q E s
       rw [if_neg (by intro h;rw [hn,Bool.false_and] at h;cases h)]
       exact wpAny_pure hQ))
def Itl(K:W.Frag)(a:Addr):It :=
 ⟨fun i H=>∃xs x,SqL K H a xs∧xs[i]?=some x,fun i H x H'=>H'=H∧∀xs,SqL K H a xs→xs[i]?=some x,fun i H=>∃xs,SqL K H a xs∧xs.length≤i⟩
def Itt(K:W.Frag)(a:Addr):It :=
 ⟨fun i H=>∃xs x,SqT K H a xs∧xs[i]?=some x,fun i H x H'=>H'=H∧∀xs,SqT K H a xs→xs[i]?=some x,fun i H=>∃xs,SqT K H a xs∧xs.length≤i⟩
def Itr(lo:Int)(n:Nat):It:=⟨fun i _=>i<n,fun i H x H'=>H'=H∧x=.int (lo+i),fun i _=>n≤i⟩
theorem ZjA{P:Program}{w:World}{K:W.Frag}{tg:Expr}(a it:Addr):Turn P w K tg (Itl K a) [it] it (fun i h=>h.IsListIter it a i) where
 mem:=by simp
 obj:=fun i h st b hb=>by
  have e:b=it:=by simpa using hb
  subst e
  obtain ⟨o,e,c,d⟩:=st
  exact ⟨o,e,fun v z=>by rw [d] at z;cases z⟩
 keep:=fun i h h' st k=>st.at fun o e=>k it (by simp) o e
 item:=by
  intro X hP hw hK hc i pins s σ H E I hf st hg
  subst hP hw hK
  obtain ⟨xs,x,hq,hx⟩:=hg
  obtain ⟨its,rv,p,hz⟩:=I.list hq
  obtain ⟨u,hu,ru⟩:=rv.get hx
  obtain ⟨f0,f1,f2,f3,f4,f5⟩:=hf it (by simp)
  refine wpAny_pyNext_list_item st p.isList (x:=u) (by simpa using hu) fun h' st' sb=>?_
  have I1:Inv X pins σ H { s with heap:=h' }:=I.turned (t':=s.toks) (fun b o hb e=>(sb.2 b hb).trans e) f0 f1 f3 f4 f5
  obtain ⟨o,e,c,d⟩:=id st'
  exact ⟨u,rfl,Zlo (s:={ s with heap:=h' }) e c d (by decide) ⟨x,H,I1,ru,⟨rfl,fun ys hy=>by rw [I.list_inj hy hq];exact hx⟩,st',fun b hb=>(hf b hb).1⟩⟩
 done:=by
  intro X hP hw hK hc i pins s σ H E I hf st hg
  subst hP hw hK
  obtain ⟨xs,hq,hx⟩:=hg
  obtain ⟨its,rv,p,hz⟩:=I.list hq
  obtain ⟨f0,f1,f2,f3,f4,f5⟩:=hf it (by simp)
  have hl:=rv.length
  exact wpAny_pyNext_list_end (I.ok.hd hc) st p.isList (by simp;omega) fun h' eb=>⟨rfl,I.turned (t':=s.toks) (fun b o hb e=>eb b o hb e) f0 f1 f3 f4 f5⟩
 self:=fun _ _ _ _ _ st h=>wpAny_pyIter_listiter st h
theorem ZiW{P:Program}{w:World}{K:W.Frag}{tg:Expr}(a it:Addr):Turn P w K tg (Itt K a) [it] it (fun i h=>h.IsTupleIter it a i) where
 mem:=by simp
 obj:=fun i h st b hb=>by
  have e:b=it:=by simpa using hb
  subst e
  obtain ⟨o,e,c,d⟩:=st
  exact ⟨o,e,fun v z=>by rw [d] at z;cases z⟩
 keep:=fun i h h' st k=>st.at fun o e=>k it (by simp) o e
 item:=by
  intro X hP hw hK hc i pins s σ H E I hf st hg
  subst hP hw hK
  obtain ⟨xs,x,hq,hx⟩:=hg
  obtain ⟨its,rv,p,hz⟩:=I.tuple hq
  obtain ⟨u,hu,ru⟩:=rv.get hx
  obtain ⟨f0,f1,f2,f3,f4,f5⟩:=hf it (by simp)
  refine wpAny_pyNext_tuple_item st (show s.heap.IsTuple a its.toArray from p) (x:=u) (by simpa using hu) fun h' st' sb=>?_
  have I1:Inv X pins σ H { s with heap:=h' }:=I.turned (t':=s.toks) (fun b o hb e=>(sb.2 b hb).trans e) f0 f1 f3 f4 f5
  obtain ⟨o,e,c,d⟩:=id st'
  exact ⟨u,rfl,Zlo (s:={ s with heap:=h' }) e c d (by decide) ⟨x,H,I1,ru,⟨rfl,fun ys hy=>by rw [I.tuple_inj hy hq];exact hx⟩,st',fun b hb=>(hf b hb).1⟩⟩
 done:=by
  intro X hP hw hK hc i pins s σ H E I hf st hg
  subst hP hw hK
  obtain ⟨xs,hq,hx⟩:=hg
  obtain ⟨its,rv,p,hz⟩:=I.tuple hq
  obtain ⟨f0,f1,f2,f3,f4,f5⟩:=hf it (by simp)
  have hl:=rv.length
  exact wpAny_pyNext_tuple_end (I.ok.hd hc) st (show s.heap.IsTuple a its.toArray from p) (by simp;omega) fun h' eb=>⟨rfl,I.turned (t':=s.toks) (fun b o hb e=>eb b o hb e) f0 f1 f3 f4 f5⟩
 self:=fun _ _ _ _ _ st h=>wpAny_pyIter_tupleiter st h
theorem Zi5{P:Program}{w:World}{K:W.Frag}{tg:Expr}(it:Addr)(lo:Int)(n:Nat):Turn P w K tg (Itr lo n) [it] it (fun i h=>IsRangeIter h it (lo+(i:Nat)*1) ((n:Int) - (i:Nat)) 1) where
 mem:=by simp
 obj:=fun i h st b hb=>by
  have e:b=it:=by simpa using hb
  subst e
  exact ⟨_,st,fun v z=>by
   have z':Data.fields _=Data.cell v:=z
   cases z'⟩
 keep:=fun i h h' st k=>k it (by simp) _ st
 item:=by
  intro X hP hw hK hc i pins s σ H E I hf st hg
  subst hP hw hK
  obtain ⟨f0,f1,f2,f3,f4,f5⟩:=hf it (by simp)
  have W:=Walks.range (prog:=X.prog) (w:=X.w) (I.ok.hd hc) it lo 1 n
  refine W.item i s _ _ hg st fun v h' tk hv st' kk=>?_
  obtain ⟨t,rfl⟩:=hv
  have I1:Inv X pins σ H { s with heap:=h',toks:=tk }:=I.turned (fun b o hb e=>kk b o (by simpa using hb) e) f0 f1 f3 f4 f5
  refine ⟨_,rfl,Zlo (s:={ s with heap:=h',toks:=tk }) (n := "range_iterator") st' rfl rfl (by decide) ⟨.int (lo+i),H,I1,⟨t,?_⟩,⟨rfl,rfl⟩,st',fun b hb=>(hf b hb).1⟩⟩
  rw [Int.mul_one]
 done:=by
  intro X hP hw hK hc i pins s σ H E I hf st hg
  subst hP hw hK
  obtain ⟨f0,f1,f2,f3,f4,f5⟩:=hf it (by simp)
  exact wpAny_pyNext_range_end (I.ok.hd hc) st (by have:n≤i:=hg;omega) fun h' eb=>⟨rfl,I.turned (t':=s.toks) (fun b o hb e=>eb b o hb e) f0 f1 f3 f4 f5⟩
 self:=fun _ _ _ _ _ st h=>wpAny_pyIter_rangeiter st h
section
variable{X:Cx}{tg:Expr}
theorem ZlW{pins:List (Addr×Obj)}{σ:St}{H:Hp}{s:Shared}{R:It→Hp→Prop}{E:Value→Shared→Prop}{lo hi:Int}{t u v:Tok}{tk:Nat}(I:Inv X pins σ H s)(h1:-(2^62)≤lo)(h2:lo<2^62)(h3:-(2^62)≤hi)(h4:hi<2^62)
  (q:R (Itr lo (hi - lo).toNat) H):wpAny (model X.prog X.w) X.A (pyIter (.ref s.heap.objs.size)) (PIE X pins σ tg R) E { s with heap:=s.heap.push { cls:=.type "range", data:=.fields #[.int lo t,.int hi u,.int 1 v] },toks:=tk }:=by
 refine wpAny_pyIter_range (IsRange.new ..) (small_one h1 h2 h3 h4) ?_
 have I1:Inv X pins σ H { s with heap:=s.heap.push { cls:=.type "range", data:=.fields #[.int lo t,.int hi u,.int 1 v] },toks:=tk }:=I.kept fun b o e=>Heap.get?_push_of_some _ e
 refine ⟨(s.heap.push { cls:=.type "range", data:=.fields #[.int lo t,.int hi u,.int 1 v] }).objs.size,[(s.heap.push { cls:=.type "range", data:=.fields #[.int lo t,.int hi u,.int 1 v] }).objs.size],_,_,H,rfl,
  I1.kept (t':=tk) fun b o e=>Heap.get?_push_of_some _ e,Zi5 _ lo (hi - lo).toNat,?_,fun b hb=>?_,q⟩
 ·have e1:lo+((0:Nat):Int)*1=lo:=by simp
  have e2:(((hi - lo).toNat:Nat):Int) - ((0:Nat):Int)=Builtin.Range.rangeSize lo hi 1:=by rw [rangeSize_one];split<;>omega
  show IsRangeIter _ _ (lo+((0:Nat):Int)*1) ((((hi - lo).toNat:Nat):Int) - ((0:Nat):Int)) 1
  rw [e1,e2]
  exact Heap.get?_push_size _ rfl
 ·have e:b=(s.heap.push { cls:=.type "range", data:=.fields #[.int lo t,.int hi u,.int 1 v] }).objs.size:=by simpa using hb
  subst e
  exact I1.fpOk (Nat.le_refl _) (I1.hok.fresh (Nat.le_refl _))
def Zoj(ta:TA):TI:=fun σ H R=>ta σ H fun vs H1=>∃j:Int,vs=[.int j]∧-(2^62)≤j∧j<2^62∧R (Itr 0 j.toNat) H1
theorem ZjO{a:Expr}{ta:TA}{p pos:Pos}(hg:Gl X "range")(hm:X.mg "range"=none)(ha:PA X [a] ta)(hs:starEach [a] X.env=[(false,eval a X.env)]:=by rfl):PI X tg (.Call (.Name "range" p) [a] [] pos) (Zoj ta):=by
 intro pins s σ H R I h
 refine Call_ (Zhh I hg hm boot_range (PyProof.Rows.callWith_type1 (thn (ha pos pins s σ H _ I h) fun us s1 ⟨vs,H1,I1,r1,q1⟩=>?_) hs rfl))
 obtain ⟨j,e,q1,q2,q⟩:=q1
 subst e
 cases r1 with
 | cons r rr =>
  cases rr
  obtain ⟨t,rfl⟩:=r
  exact call_range_1 (ZlW I1 (by omega) (by omega) q1 q2 (by simpa using q))
def tFor(wi:TI)(g:TG)(tb:TS):TS:=fun D σ H=>wi σ H fun J H1=>∃W:Nat→Nat→St→Hp→Prop,(∃m,W 0 m σ H1)∧∀i m σ H,W i m σ H →
 (J.stop i H∧D.nx σ H)∨(J.go i H∧∃N:St→Hp→Prop,(∀σ' H',N σ' H'→∃m',m'<m∧W (i+1) m' σ' H')∧∀x H',J.yld i H x H'→g x σ H' fun σ2 H2=>tb { D with nx:=N,ct:=N,bk:=D.nx } σ2 H2)
def ZiG(fp:List Addr)(h:Heap):List (Addr×Obj):=fp.filterMap fun b=>(h.get? b).map fun o=>(b,o)
theorem Zb1{fp:List Addr}{h:Heap}{b:Addr}{o:Obj}(hb:b∈fp)(e:h.get? b=some o):(b,o)∈ZiG fp h:=List.mem_filterMap.mpr ⟨b,hb,by rw [e];rfl⟩
theorem ZjH{fp:List Addr}{h:Heap}{p:Addr×Obj}(hp:p∈ZiG fp h):p.1∈fp∧h.get? p.1=some p.2:=by
 obtain ⟨b,hb,e⟩:=List.mem_filterMap.mp hp
 cases q:h.get? b with
 | none=>rw [q] at e;cases e
 | some o =>
  rw [q] at e
  have e':(b,o)=p:=Option.some.inj e
  subst e'
  exact ⟨hb,q⟩
theorem Inv.pinned{pins:List (Addr×Obj)}{σ:St}{H:Hp}{s:Shared}{fp:List Addr}(I:Inv X pins σ H s)(hf:∀b∈fp,FpOk X pins H b)(ho:∀b∈fp,∃o,s.heap.get? b=some o∧∀v,o.data≠.cell v):Inv X (pins++ZiG fp s.heap) σ H s :=
 I.pins_of fun p hp=>(List.mem_append.mp hp).elim (fun z=>I.pin p (List.mem_append_right _ z)) fun z=>by
  obtain ⟨hb,e⟩:=ZjH z
  obtain ⟨f0,f1,f2,_⟩:=hf p.1 hb
  obtain ⟨o,e',d⟩:=ho p.1 hb
  rw [e] at e';cases e'
  exact ⟨e,f0,f1,f2,d⟩
theorem Inv.unpinned{pins pl:List (Addr×Obj)}{σ:St}{H:Hp}{s:Shared}(I:Inv X (pins++pl) σ H s):Inv X pins σ H s:=I.pins_of fun p hp=>I.pin p (List.mem_append_right _ (List.mem_append_left _ hp))
theorem Zmi{iter:Expr}{body:List Stmt}{wi:TI}{g:TG}{tb:TS}{pos:Pos}(hp:PassesOwn (model X.prog X.w) X.A X.env X.xe)(hc:X.calm=true)(hi:PI X tg iter wi)(hg:PG X tg g)(hb:PSs X body tb)
  (hs:∀x,foldedSetIterable iter X.env x=pure x:=by intro _;rfl):PS X (.For tg iter body [] pos) (tFor wi g tb):=by
 intro pins s σ H D I h
 refine wpAny_For (thn (hi pins s σ H _ I h) fun v s1 h1=>thn h1 fun itv s2 h2=>?_) hs
 obtain ⟨it,fp,tn,J,H2,e,I2,T,st2,f2,W,⟨m0,w0⟩,turn⟩:=h2
 subst e
 have stat:∀{H':Hp},(∀b∈fp,H' b=none)→∀b∈fp,FpOk X pins H' b:=fun hn b hb=>⟨hn b hb,(f2 b hb).2⟩
 refine codeAny_forLoop_any (fun n s'=>∃i σ' H',Inv X pins σ' H' s'∧tn i s'.heap∧(∀b∈fp,H' b=none)∧W i n σ' H') ?_ m0 ⟨0,σ,H2,I2,st2,fun b hb=>(f2 b hb).1,w0⟩
 rintro n s3 ⟨i,σ3,H3,I3,st3,fr3,w3⟩
 rcases turn i n σ3 H3 w3 with ⟨stop,qn⟩ | ⟨go,N,hN,step⟩
 ·refine wpAny_passesOwn hp (thn (T.done X rfl rfl rfl hc i pins s3 σ3 H3 X.xe I3 (stat fr3) st3 stop) fun r s4 ⟨hr,I4⟩=>?_)
  subst hr
  exact wpAny_execs_nil ⟨σ3,H3,I4,qn⟩
 ·refine wpAny_passesOwn hp (thn (T.item X rfl rfl rfl hc i pins s3 σ3 H3 X.xe I3 (stat fr3) st3 go) fun r s4 ⟨u,hr,h4⟩=>?_)
  subst hr
  refine wpAny_passesOwn hp (thn h4 fun _ s5 ⟨x,H5,I5,r5,y5,st5,fr5⟩=>?_)
  have I5':=I5.pinned (stat fr5) (T.obj _ _ st5)
  refine wpAny_passesOwn hp (thn (hg _ s5 σ3 H5 x u _ I5' r5 (step x H5 y5)) fun _ s6 ⟨σ6,H6,I6,q6⟩=>?_)
  refine wpAny_passesOwn hp (thn (hb _ s6 σ6 H6 _ I6 q6) fun f s7 q7=>?_)
  have again:∀{σ7:St} {H7:Hp},Inv X (pins++ZiG fp s5.heap) σ7 H7 s7→N σ7 H7→∃m,m<n∧∃i σ' H',Inv X pins σ' H' s7∧tn i s7.heap∧(∀b∈fp,H' b=none)∧W i m σ' H':=fun {σ7 H7} I7 n7=>by
   obtain ⟨m',hm,w7⟩:=hN σ7 H7 n7
   refine ⟨m',hm,i+1,σ7,H7,I7.unpinned,T.keep _ _ _ st5 fun b hb o e=>(I7.pin (b,o) (List.mem_append_right _ (List.mem_append_right _ (Zb1 hb e)))).1,fun b hb=>?_,w7⟩
   obtain ⟨o,e,d⟩:=T.obj _ _ st5 b hb
   exact (I7.pin (b,o) (List.mem_append_right _ (List.mem_append_right _ (Zb1 hb e)))).2.1
  cases f with
  | next=>obtain ⟨σ7,H7,I7,n7⟩:=q7;exact again I7 n7
  | cont=>obtain ⟨σ7,H7,I7,n7⟩:=q7;exact again I7 n7
  | brk=>obtain ⟨σ7,H7,I7,q7⟩:=q7;exact ⟨σ7,H7,I7.unpinned,q7⟩
  | ret v=>obtain ⟨x7,σ7,H7,I7,r7,q7⟩:=q7;exact ⟨x7,σ7,H7,I7.unpinned,r7,q7⟩
end
abbrev R2:=V→V→Hp→VK→Prop
def OpR(X:Cx)(f:Value→Value→Sem Value)(r:R2):Prop :=
 ∀(pins:List (Addr×Obj)) (s:Shared) (σ:St) (H:Hp) (x y:V) (v u:Value) (Q:VK),Inv X pins σ H s→RelV x v→RelV y u→r x y H Q →
  wpAny (model X.prog X.w) X.A (f v u) (EP X pins σ Q) X.xe s
def UnR(X:Cx)(f:Value→Sem Value)(r:V→Hp→VK→Prop):Prop :=
 ∀(pins:List (Addr×Obj)) (s:Shared) (σ:St) (H:Hp) (x:V) (v:Value) (Q:VK),Inv X pins σ H s→RelV x v→r x H Q →
  wpAny (model X.prog X.w) X.A (f v) (EP X pins σ Q) X.xe s
def ZdV(X:Cx)(f:Value)(r:List V→Hp→VK→Prop):Prop :=
 ∀(pins:List (Addr×Obj)) (s:Shared) (σ:St) (H:Hp) (xs:List V) (us:List Value) (Q:VK),Inv X pins σ H s→Vals xs us→r xs H Q →
  wpAny (model X.prog X.w) X.A (call f us) (EP X pins σ Q) X.xe s
def tOp(r:R2)(ta tb:TE):TE:=fun σ H Q=>ta σ H fun x H1=>tb σ H1 fun y H2=>r x y H2 Q
def tUn(r:V→Hp→VK→Prop)(ta:TE):TE:=fun σ H Q=>ta σ H fun x H1=>r x H1 Q
def rI(C:Int→Int→Prop)(g:Int→Int→V):R2:=fun x y H Q=>∃i j,x=.int i∧y=.int j∧C i j∧Q (g i j) H
def rI0(g:Int→Int→V):R2:=fun x y H Q=>∃i j,x=.int i∧y=.int j∧Q (g i j) H
def rU(g:Int→V):V→Hp→VK→Prop:=fun x H Q=>∃i,x=.int i∧Q (g i) H
section
variable{X:Cx}{a b c:Expr}{ta tb tc:TE}{pos:Pos}
theorem binT(ha:PE X a ta)(hb:PE X b tb){pins:List (Addr×Obj)}{s:Shared}{σ:St}{H:Hp}{R:V→V→Hp→Prop}(I:Inv X pins σ H s)
  (h:ta σ H fun x H1=>tb σ H1 fun y H2=>R x y H2) {Q:Value→Shared→Prop} {f:Value→Value→Sem Value}
  (hf:∀v u s2 x y H2,Inv X pins σ H2 s2→RelV x v→RelV y u→R x y H2→wpAny (model X.prog X.w) X.A (f v u) Q X.xe s2) :
  wpAny (model X.prog X.w) X.A (eval a X.env) (fun v s₁=>wpAny (model X.prog X.w) X.A (eval b X.env) (fun u s₂=>wpAny (model X.prog X.w) X.A (f v u) Q X.xe s₂) X.xe s₁) X.xe s:=by
 refine thn (ha pins s σ H _ I h) fun v s1 ⟨x,H1,I1,r1,q1⟩=>?_
 refine thn (hb pins s1 σ H1 _ I1 q1) fun u s2 ⟨y,H2,I2,r2,q2⟩=>?_
 exact hf v u s2 x y H2 I2 r1 r2 q2
theorem Zqy{op:Operator}{r:R2}(ho:OpR X (binaryOp op) r)(ha:PE X a ta)(hb:PE X b tb):PE X (.BinOp a op b pos) (tOp r ta tb):=by
 intro pins s σ H Q I h
 exact wpAny_BinOp (binT ha hb I h fun v u s2 x y H2 I2 rx ry q=>ho pins s2 σ H2 x y v u Q I2 rx ry q)
theorem Zo5{op:UnaryOp}{r:V→Hp→VK→Prop}(ho:UnR X (unaryOp op) r)(ha:PE X a ta):PE X (.UnaryOp op a pos) (tUn r ta):=by
 intro pins s σ H Q I h
 exact UnaryOp_ (thn (ha pins s σ H _ I h) fun v s1 ⟨x,H1,I1,r1,q1⟩=>ho pins s1 σ H1 x v Q I1 r1 q1)
theorem opI{f:Value→Value→Sem Value}{C:Int→Int→Prop}{g:Int→Int→Int}
  (rule:∀(i j:Int) (t u:Tok) (s:Shared) (Q:Value→Shared→Prop) (E:Value→Shared→Prop),C i j→Q (.int (g i j) s.toks) { s with toks:=s.toks+1 }→wpAny (model X.prog X.w) X.A (f (.int i t) (.int j u)) Q E s) :
  OpR X f (rI C fun i j=>.int (g i j)):=by
 intro pins s σ H x y v u Q I rx ry h
 obtain ⟨i,j,rfl,rfl,hc,q⟩:=h
 obtain ⟨t,rfl⟩:=rx
 obtain ⟨t',rfl⟩:=ry
 exact rule i j t t' s _ _ hc ⟨.int (g i j),H,I.tok _,⟨_,rfl⟩,q⟩
theorem opI0{f:Value→Value→Sem Value}{g:Int→Int→Int}
  (rule:∀(i j:Int) (t u:Tok) (s:Shared) (Q:Value→Shared→Prop) (E:Value→Shared→Prop),Q (.int (g i j) s.toks) { s with toks:=s.toks+1 }→wpAny (model X.prog X.w) X.A (f (.int i t) (.int j u)) Q E s) :
  OpR X f (rI0 fun i j=>.int (g i j)):=by
 intro pins s σ H x y v u Q I rx ry h
 obtain ⟨i,j,rfl,rfl,q⟩:=h
 obtain ⟨t,rfl⟩:=rx
 obtain ⟨t',rfl⟩:=ry
 exact rule i j t t' s _ _ ⟨.int (g i j),H,I.tok _,⟨_,rfl⟩,q⟩
theorem opB0{f:Value→Value→Sem Value}{g:Int→Int→Bool}
  (rule:∀(i j:Int) (t u:Tok) (s:Shared) (Q:Value→Shared→Prop) (E:Value→Shared→Prop),Q (.bool (g i j)) s→wpAny (model X.prog X.w) X.A (f (.int i t) (.int j u)) Q E s) :
  OpR X f (rI0 fun i j=>.bl (g i j)):=by
 intro pins s σ H x y v u Q I rx ry h
 obtain ⟨i,j,rfl,rfl,q⟩:=h
 obtain ⟨t,rfl⟩:=rx
 obtain ⟨t',rfl⟩:=ry
 exact rule i j t t' s _ _ ⟨.bl (g i j),H,I,rfl,q⟩
def CPow(i j:Int):Prop:=0≤j∧j≤1000000∧i.natAbs<2^64
theorem Zjk(k:Nat):(0:Int)≤2^k:=by
 rw [two_pow_cast]
 exact Int.natCast_nonneg _
theorem Zpa:OpR X (binaryOp .Add) (rI0 fun i j=>.int (i+j)):=opI0 fun _ _ _ _ _ _ _ q=>add_int q
theorem Zpm:OpR X (binaryOp .Sub) (rI0 fun i j=>.int (i - j)):=opI0 fun _ _ _ _ _ _ _ q=>sub_int q
theorem ZnT:OpR X (binaryOp .Mod) (rI (fun _ j=>j≠0) fun i j=>.int (i.fmod j)):=opI fun _ _ _ _ _ _ _ hc q=>mod_int' hc q
theorem ZoP:OpR X (binaryOp .Pow) (rI CPow fun i j=>.int (i^j.toNat)):=opI fun _ _ _ _ _ _ _ hc q=>pow_int_small hc.1 hc.2.1 hc.2.2 q
theorem Zqf:OpR X (binaryOp .LShift) (rI CPow fun i j=>.int (i*2^j.toNat)):=opI fun _ _ _ _ _ _ _ hc q=>lshift_int_small hc.1 hc.2.1 hc.2.2 q
theorem ZpM:OpR X (binaryOp .RShift) (rI (fun _ j=>0≤j) fun i j=>.int (i/2^j.toNat)):=opI fun i j _ _ _ _ _ hc q =>
 rshift_int hc (by rw [Int.fdiv_eq_ediv_of_nonneg i (Zjk _)];exact q)
theorem unI{f:Value→Sem Value}{g:Int→Int}
  (rule:∀(i:Int) (t:Tok) (s:Shared) (Q:Value→Shared→Prop) (E:Value→Shared→Prop),Q (.int (g i) s.toks) { s with toks:=s.toks+1 }→wpAny (model X.prog X.w) X.A (f (.int i t)) Q E s) :
  UnR X f (rU fun i=>.int (g i)):=by
 intro pins s σ H x v Q I rx h
 obtain ⟨i,rfl,q⟩:=h
 obtain ⟨t,rfl⟩:=rx
 exact rule i t s _ _ ⟨.int (g i),H,I.tok _,⟨_,rfl⟩,q⟩
theorem Zmb:UnR X (unaryOp .USub) (rU fun i=>.int (-i)):=unI fun _ _ _ _ _ q=>neg_int q
end
section
variable{X:Cx}{a b c:Expr}{ta tb tc:TE}{pos:Pos}
theorem ZiC{pins:List (Addr×Obj)}{σ:St}{H:Hp}{s:Shared}{Q:VK}{k k':Bool}(I:Inv X pins σ H s)(q:Q (.bl k) H)(e:k=k'):EP X pins σ Q (.bool k') s:=by
 subst e
 exact ⟨.bl k,H,I,rfl,q⟩
theorem ZqN:OpR X (compareOp .Lt) (rI0 fun i j=>.bl (decide (i<j))):=opB0 fun _ _ _ _ _ _ _ q=>lt_int q
theorem Zn4:OpR X (compareOp .LtE) (rI0 fun i j=>.bl (decide (i≤j))):=opB0 fun _ _ _ _ _ _ _ q=>le_int q
theorem ZqQ:OpR X (compareOp .Gt) (rI0 fun i j=>.bl (decide (j<i))):=opB0 fun _ _ _ _ _ _ _ q=>gt_int q
theorem ZoX:OpR X (compareOp .GtE) (rI0 fun i j=>.bl (decide (j≤i))):=opB0 fun _ _ _ _ _ _ _ q=>ge_int q
theorem Zkr:OpR X (compareOp .In) (fun x y H Q=>∃i j,x=.str i∧y=.str j∧Q (.bl (!(Builtin.Str.occurrences j i 0 j.length 1).isEmpty)) H):=by
 intro pins s σ H x y v u Q I rx ry h
 obtain ⟨i,j,rfl,rfl,q⟩:=h
 obtain ⟨t,rfl⟩:=rx
 obtain ⟨t',rfl⟩:=ry
 exact in_str (ZiC I q rfl)
theorem ZhA:OpR X (compareOp .NotIn) (fun x y H Q=>∃i j,x=.str i∧y=.str j∧Q (.bl (!(!(Builtin.Str.occurrences j i 0 j.length 1).isEmpty))) H):=by
 intro pins s σ H x y v u Q I rx ry h
 obtain ⟨i,j,rfl,rfl,q⟩:=h
 obtain ⟨t,rfl⟩:=rx
 obtain ⟨t',rfl⟩:=ry
 exact notIn_str (ZiC I q rfl)
theorem Zea(b:Expr){op:CmpOp}(h:op≠.In:=by decide)(h2:op≠.NotIn:=by decide):behindInMarks op b=false:=by
 have e1:(op==CmpOp.In)=false:=by cases op<;>first | rfl | exact absurd rfl h
 have e2:(op==CmpOp.NotIn)=false:=by cases op<;>first | rfl | exact absurd rfl h2
 cases b<;>simp [behindInMarks,e1,e2]
theorem ZmK{op:CmpOp}{r:R2}(ho:OpR X (compareOp op) r)(ha:PE X a ta)(hb:PE X b tb)(hm:behindInMarks op b=false):PE X (.Compare a [op] [b] pos) (tOp r ta tb):=by
 intro pins s σ H Q I h
 exact wpAny_Compare1 (binT ha hb I h fun v u s2 x y H2 I2 rx ry q=>ho pins s2 σ H2 x y v u Q I2 rx ry q) hm
def Zd3(t:TE):TT:=fun σ H Q=>t σ H fun x H'=>∃k,x=.bl k∧Q k H'
theorem Zm1{op:CmpOp}{r:R2}(ho:OpR X (compareOp op) r)(ha:PE X a ta)(hb:PE X b tb)(hm:behindInMarks op b=false):PT X (.Compare a [op] [b] pos) (Zd3 (tOp r ta tb)):=by
 intro pins s σ H Q I h
 refine wpAny_isTrue_Compare1 (thn (ha pins s σ H _ I h) fun v s1 ⟨x,H1,I1,r1,q1⟩=>thn (hb pins s1 σ H1 _ I1 q1) fun u s2 ⟨y,H2,I2,r2,q2⟩ =>
  thn (ho pins s2 σ H2 x y v u _ I2 r1 r2 q2) fun c s3 ⟨z,H3,I3,r3,k,e,q3⟩=>?_) hm
 subst e
 cases r3
 exact wpAny_truthy_bool ⟨H3,I3,q3⟩
def Zkb(r r':R2)(ta tb tc:TE):TE:=fun σ H Q=>ta σ H fun x H1=>tb σ H1 fun y H2=>r x y H2 fun z H3=>∃k,z=.bl k ∧
 (if k=true then tc σ H3 fun w' H4=>r' y w' H4 Q else Q (.bl false) H3)
theorem ZlJ{op op':CmpOp}{r r':R2}(ho:OpR X (compareOp op) r)(ho':OpR X (compareOp op') r')(ha:PE X a ta)(hb:PE X b tb)(hc:PE X c tc)
  (hm:lastMarks [op,op'] [b,c]=false:=by with_unfolding_all rfl):PT X (.Compare a [op,op'] [b,c] pos) (Zd3 (Zkb r r' ta tb tc)):=by
 intro pins s σ H Q I h
 refine isTrue_chain (thn (ha pins s σ H _ I h) fun v s1 ⟨x,H1,I1,r1,q1⟩=>test_link (thn (hb pins s1 σ H1 _ I1 q1) fun u s2 ⟨y,H2,I2,r2,q2⟩ =>
  thn (ho pins s2 σ H2 x y v u _ I2 r1 r2 q2) fun d s3 ⟨z,H3,I3,r3,k,e,q3⟩=>?_)) hm
 subst e
 cases r3
 refine wpAny_truthy_bool ?_
 cases k with
 | false =>
  obtain ⟨k',e',q'⟩:=q3
  cases e'
  exact ite_ff ⟨H3,I3,q'⟩
 | true =>
  refine ite_tt (test_last (thn (hc pins s3 σ H3 _ I3 q3) fun w' s4 ⟨z',H4,I4,r4,q4⟩=>thn (ho' pins s4 σ H4 y z' u w' _ I4 r2 r4 q4) fun d' s5 ⟨z2,H5,I5,r5,k2,e2,q5⟩=>?_))
  subst e2
  cases r5
  exact wpAny_truthy_bool ⟨H5,I5,q5⟩
theorem ZiO:(sizeLine:Nat)<2^63:=by rw [sizeLine_eq];decide
theorem Zjf:OpR X (binaryOp .Add) (fun x y H Q=>∃i j,x=.str i∧y=.str j∧i.length+j.length≤sizeLine∧Q (.str (i++j)) H):=by
 intro pins s σ H x y v u Q I rx ry h
 obtain ⟨i,j,rfl,rfl,hz,q⟩:=h
 obtain ⟨t,rfl⟩:=rx
 obtain ⟨t',rfl⟩:=ry
 exact add_str (fun t' tk=>⟨.str (i++j),H,I.tok _,⟨_,rfl⟩,q⟩) hz
theorem vals1{x:V}{us:List Value}(r:Vals [x] us):∃u,us=[u]∧RelV x u:=by
 cases r with
 | cons r1 r2=>cases r2;exact ⟨_,rfl,r1⟩
theorem vals2{x y:V}{us:List Value}(r:Vals [x,y] us):∃u w',us=[u,w']∧RelV x u∧RelV y w':=by
 cases r with
 | cons r1 r2 =>
  cases r2 with
  | cons r3 r4=>cases r4;exact ⟨_,_,rfl,r1,r3⟩
theorem Zep:ZdV X (.builtin "abs") (fun xs H Q=>∃i,xs=[.int i]∧Q (.int (if i<0 then -i else i)) H):=by
 intro pins s σ H xs us Q I r h
 obtain ⟨i,rfl,q⟩:=h
 obtain ⟨u,rfl,t,rfl⟩:=vals1 r
 exact call_abs_int fun u tk=>⟨.int (if i<0 then -i else i),H,I.tok _,⟨_,rfl⟩,q⟩
theorem Zhm(hc:X.calm=true):ZdV X (.builtin "max") (fun xs H Q=>∃i j,xs=[.int i,.int j]∧Q (.int (if j>i then j else i)) H):=by
 intro pins s σ H xs us Q I r h
 obtain ⟨i,j,rfl,q⟩:=h
 obtain ⟨u,w',rfl,⟨t,rfl⟩,⟨t',rfl⟩⟩:=vals2 r
 refine max_two_ints (I.ok.hd hc) fun h' tk k=>⟨_,H,I.kept k,?_,q⟩
 by_cases hj:j>i
 ·rw [if_pos hj,if_pos hj];exact ⟨_,rfl⟩
 ·rw [if_neg hj,if_neg hj];exact ⟨_,rfl⟩
theorem ZbF:ZdV X (.type "str") (fun xs H Q=>∃i,xs=[.int i]∧i.natAbs.log2<1920∧Q (.str (toString i)) H):=by
 intro pins s σ H xs us Q I r h
 obtain ⟨i,rfl,hz,q⟩:=h
 obtain ⟨u,rfl,t,rfl⟩:=vals1 r
 exact PySem.P.str_of_int hz ⟨.str _,H,I.tok _,⟨_,rfl⟩,q⟩
def LenV(K:W.Frag)(x:V)(H:Hp)(n:Nat):Prop :=
 match x with
 | .str y=>y.length≤sizeLine∧n=y.length
 | .byt y=>y.size≤sizeLine∧n=y.size
 | .ref p=>(∃xs,SqL K H p xs∧n=xs.length)∨∃xs,SqT K H p xs∧n=xs.length
 | _=>False
theorem ZlN:ZdV X (.builtin "len") (fun xs H Q=>∃x n,xs=[x]∧LenV X.K x H n∧Q (.int n) H):=by
 intro pins s σ H xs us Q I r h
 obtain ⟨x,n,rfl,e,q⟩:=h
 obtain ⟨u,rfl,rx⟩:=vals1 r
 have hl:=ZiO
 have hs:sizeLine=16777216:=sizeLine_eq
 cases x with
 | str y =>
  obtain ⟨t,rfl⟩:=rx
  obtain ⟨hy,e'⟩ : y.length≤sizeLine∧n=y.length:=e
  subst e'
  exact len_str (by omega) ⟨.int _,H,I.tok _,⟨_,rfl⟩,q⟩
 | byt y =>
  obtain ⟨t,rfl⟩:=rx
  obtain ⟨hy,e'⟩ : y.size≤sizeLine∧n=y.size:=e
  subst e'
  exact W.len_bytes (by omega) ⟨.int _,H,I.tok _,⟨_,rfl⟩,q⟩
 | ref p =>
  cases rx
  have e':(∃xs,SqL X.K H p xs∧n=xs.length)∨∃xs,SqT X.K H p xs∧n=xs.length:=e
  rcases e' with ⟨xs,hx,e'⟩ | ⟨xs,hx,e'⟩
  ·subst e'
   obtain ⟨its,r',pl,hz⟩:=I.list hx
   have hlen:=r'.length
   exact Calls.call_len_list pl.isList (by simp only [List.size_toArray];omega) ⟨.int xs.length,H,I.tok _,⟨_,by simp only [List.size_toArray];rw [hlen]⟩,q⟩
  ·subst e'
   obtain ⟨its,r',pl,hz⟩:=I.tuple hx
   have hlen:=r'.length
   exact len_tuple pl (by simp only [List.size_toArray];omega) ⟨.int xs.length,H,I.tok _,⟨_,by simp only [List.size_toArray];rw [hlen]⟩,q⟩
 | _=>exact (show False from e).elim
end
structure ObjM(h:Heap)(x dx C:Addr)(mA:Str→Option Value):Prop where
 obj:h.get? x=some (W.instObj C dx)
 ns:h.Ns1 dx mA
 ne:dx≠x
theorem Zjp{h:Heap}{dx:Addr}{mA:Str→Option Value}(n:h.Ns1 dx mA):∃od,h.get? dx=some od∧∀name,W.lookIn name od=some (mA name):=by
 obtain ⟨o,es,ep,ho,hd,hk,_,hm⟩:=n
 refine ⟨o,ho,fun name=>?_⟩
 have e:=hm name
 unfold nsFind findBy at e
 rw [←Array.find?_toList] at e
 unfold W.lookIn
 rw [hd]
 dsimp only
 split
 ·rename_i y q
  rw [q] at e
  exact congrArg some e
 ·rename_i q
  rw [q] at e
  have a:es.toList.any (·.refKey)=false:=by
   rw [List.any_eq_false]
   intro y hy
   obtain ⟨z,t,hkey⟩:=hk y (Array.mem_toList_iff.mp hy)
   simp [DictEntry.refKey,hkey]
  have a':¬es.toList.any (·.refKey)=true:=by rw [a];exact Bool.false_ne_true
  rw [if_neg a']
  exact congrArg some e
theorem ObjM.look{h:Heap}{x dx C:Addr}{mA:Str→Option Value}(I:ObjM h x dx C mA):∃od,W.InstAt h x (W.instObj C dx) C (some od)∧∀name,W.lookIn name od=some (mA name) :=
 let ⟨od,ho,hl⟩:=Zjp I.ns
 ⟨od,⟨I.obj,rfl,rfl,ho⟩,hl⟩
section
variable{prog:Program}{w:World}{A:Around}{E:Value→Shared→Prop}{s:Shared}{K:W.Frag}{x dx C f:Addr}{mA:Str→Option Value}{name:Str}{v:Value}
theorem Znm{expr:Bool}{Q:Value→Shared→Prop}(X:K.In s.heap)(I:ObjM s.heap x dx C mA)(hg:W.plainGet K C name=true)(hh:W.hasDictIn K C=true)
  (ha:W.findIn K (.ref C) name=some none) (hv:mA name=some v) (hv':W.handedIn v=true) (h:Q v { s with toks:=s.toks+1 }) :
  wpAny (model prog w) A (getAttr (.ref x) name expr) Q E s:=by
 obtain ⟨od,J,hl⟩:=I.look
 exact W.get_value X J (W.plainGet_of hg).1 (W.findObj_own hh ha rfl (by rw [hl,hv])) hv' h
theorem ZlT{pl:Sem Bool}{Q:Value×List Value→Shared→Prop}(X:K.In s.heap)(I:ObjM s.heap x dx C mA)(hg:W.plainGet K C name=true)
  (hf:W.findIn K (.ref C) name=some (some (.ref f))) (ht:W.isFn K (.ref f)=true) (hv:mA name=none) (h:Q (.ref f,[.ref x]) s) :
  wpAny (model prog w) A (getMethod (.ref x) name pl) Q E s:=by
 obtain ⟨od,J,hl⟩:=I.look
 exact W.method_fn X J (W.plainGet_of hg).1 (W.plainGet_of hg).2 hf (beq_iff_eq.mp ht) (by show (W.lookIn name od).map (·.isSome)=some false;rw [hl,hv];rfl) h
theorem Zni{ns:List Str}{Q:Unit→Shared→Prop}(X:K.In s.heap)(I:ObjM s.heap x dx C mA)
  (hs:W.findIn K (.ref C) "__setattr__"=some (some (.builtin "object.__setattr__"))) (hp:W.plainOver K C=true) (ht:W.takerIn K C name=some none) (hh:W.hasDictIn K C=true)
  (hw:PySem.Within mA ns) (hsz:ns.length≤sizeLine)
  (h:∀h',ObjM h' x dx C (fun y=>if y=name then some v else mA y)→Heap.SameBut dx s.heap h'→Q () { s with heap:=h',toks:=s.toks+2 }) :
  wpAny (model prog w) A (setAttr (.ref x) name v) Q E s:=by
 obtain ⟨od,J,hl⟩:=I.look
 refine W.set_plain X J hs (W.osa_open (s:={ s with toks:=s.toks+1 }) (r:=none) X J hp ht fun b=>?_)
 obtain ⟨cd,hc,hd'⟩:=W.any_some hh
 have hx:s.heap.get? x=some ⟨.ref C,some dx,.plain,#[]⟩:=I.obj
 refine wpAny_bind (wpAny_pure (wpAny_bind (wpAny_bind (wpAny_loadPart hx (wpAny_bind (W.Looks.here (s:={ s with toks:=s.toks+1 }) (W.looks_clsIn X hc) ?_))))))
 rw [hd']
 refine wpAny_pure (a:=some dx) (wpAny_bind (wpAny_pure (wpAny_bind ?_)))
 refine wpAny_nsSet1 (s:={ s with toks:=s.toks+1 }) I.ns fun h' hn2 hs2=>?_
 obtain ⟨oD,esD,epD,hoD,hdD,hcD⟩:=hn2.count (PySem.Within.cons name v hw)
 refine wpAny_bind (wpAny_lookBehind hoD (by rw [hdD];exact pastItsLine_dict (Nat.le_trans hcD (by rw [List.length_cons];omega))) ?_)
 exact wpAny_pure (h _ ⟨(hs2.2 _ (Ne.symm I.ne)).trans I.obj,hn2,I.ne⟩ hs2)
theorem ZlP{R:Result→Shared→Prop}{vs:List Value}{kw:List (Str×Value)}(X:K.In s.heap)(hm:W.makesIn K C=true)
  (hi:W.findIn K (.ref C) "__init__"=some (some (.ref f))) (hf:W.typeIn K (.ref f)=some (.type "function"))
  (h:codeAny (model prog w) (A.under (.builtin "type.__call__" ⟨.ref C::vs,kw⟩)) (.call (.ref f) ⟨.ref (s.heap.objs.size+1)::vs,kw⟩) (W.InitBack (s.heap.objs.size+1) R)
   { s with heap:=(s.heap.push W.emptyDict).push (W.instObj C s.heap.objs.size) }) :
  codeAny (model prog w) A (.call (.ref C) ⟨vs,kw⟩) R s:=by
 obtain ⟨hh,g,d,t,os⟩:=s
 exact W.make_core (W.makes_of X hm) (W.looks_findIn X hi) (fun self=>W.bind_fn X self hf) (.inl rfl) h
end
def putF(f:Str)(v:V):List (Str×V)→List (Str×V)
 | []=>[(f,v)]
 | (g,x)::r=>if g=f then (g,v)::r else (g,x)::putF f v r
theorem Zfh(f g:Str)(v:V):∀fs:List (Str×V),(putF f v fs).lookup g=if g=f then some v else fs.lookup g
 | []=>by
  show List.lookup g [(f,v)]=_
  by_cases h:g=f
  ·have hb:(g==f)=true:=beq_iff_eq.mpr h
   simp only [List.lookup,hb,if_pos h]
  ·have hb:(g==f)=false:=beq_eq_false_iff_ne.mpr h
   simp only [List.lookup,hb,if_neg h]
 | (k,x)::r=>by
  have ih:=Zfh f g v r
  rw [show putF f v ((k,x)::r)=(if k=f then (k,v)::r else (k,x)::putF f v r) from rfl]
  by_cases hk:k=f
  ·rw [if_pos hk]
   by_cases h:g=k
   ·have hb:(g==k)=true:=beq_iff_eq.mpr h
    simp only [List.lookup,hb,if_pos (h.trans hk)]
   ·have hb:(g==k)=false:=beq_eq_false_iff_ne.mpr h
    simp only [List.lookup,hb,if_neg (fun e:g=f=>h (e.trans hk.symm))]
  ·rw [if_neg hk]
   by_cases h:g=k
   ·have hb:(g==k)=true:=beq_iff_eq.mpr h
    simp only [List.lookup,hb,if_neg (fun e:g=f=>hk (h.symm.trans e))]
   ·have hb:(g==k)=false:=beq_eq_false_iff_ne.mpr h
    simp only [List.lookup,hb]
    exact ih
theorem Zfl(f:Str)(v:V):∀fs:List (Str×V),f∈(putF f v fs).map (·.1)∧∀g,g∈fs.map (·.1)→g∈(putF f v fs).map (·.1)
 | []=>⟨by simp [putF],fun g h=>by simp at h⟩
 | (k,x)::r=>by
  obtain ⟨i1,i2⟩:=Zfl f v r
  rw [show putF f v ((k,x)::r)=(if k=f then (k,v)::r else (k,x)::putF f v r) from rfl]
  by_cases hk:k=f
  ·rw [if_pos hk]
   subst hk
   exact ⟨by simp,fun g h=>by simpa using h⟩
  ·rw [if_neg hk]
   refine ⟨?_,fun g h=>?_⟩
   ·rw [List.map_cons]
    exact List.mem_cons_of_mem _ i1
   ·rw [List.map_cons] at h ⊢
    rcases List.mem_cons.mp h with e | e
    ·exact List.mem_cons.mpr (.inl e)
    ·exact List.mem_cons_of_mem _ (i2 g e)
theorem ZfD(f:Str)(v:V):∀fs:List (Str×V),(putF f v fs).length≤fs.length+1
 | []=>by simp [putF]
 | (k,x)::r=>by
  have ih:=ZfD f v r
  rw [show putF f v ((k,x)::r)=(if k=f then (k,v)::r else (k,x)::putF f v r) from rfl]
  by_cases hk:k=f
  ·rw [if_pos hk,List.length_cons,List.length_cons];omega
  ·rw [if_neg hk,List.length_cons,List.length_cons];omega
theorem RelO.some_of{v:V}{o:Option Value}(r:RelO (some v) o):∃u,o=some u∧RelV v u:=by
 cases o with
 | none=>exact (show False from r).elim
 | some u=>exact ⟨u,rfl,r⟩
theorem RelO.none_of{o:Option Value}(r:RelO none o):o=none:=by
 cases o with
 | none=>rfl
 | some u=>exact (show False from r).elim
theorem Zjs{v:V}{u:Value}(r:RelV v u):W.handedIn u=true:=by
 cases v with
 | non=>cases (show u=Value.none from r);rfl
 | bl b=>cases (show u=Value.bool b from r);rfl
 | int i=>obtain ⟨t,e⟩:=(show ∃t,u=Value.int i t from r);cases e;rfl
 | str x=>obtain ⟨t,e⟩:=(show ∃t,u=Value.str x t from r);cases e;rfl
 | byt b=>obtain ⟨t,e⟩:=(show ∃t,u=Value.bytes b t from r);cases e;rfl
 | flt b=>obtain ⟨t,e⟩:=(show ∃t,u=Value.float b t from r);cases e;rfl
 | ref a=>cases (show u=Value.ref a from r);rfl
 | ty n=>cases (show u=Value.type n from r);rfl
section
variable{P:Program}{w:World}{H H':Hp}{h h':Heap}{a C dx:Addr}{fs fs':List (Str×V)}
theorem Zgx(hok:HOk P w H h)(e:H a=some (.ins C dx fs)):∃mA,ObjM h a dx C mA∧(∀f,RelO (fs.lookup f) (mA f))∧PySem.Within mA (fs.map (·.1))∧fs.length≤1000∧H dx=some (.own a):=by
 obtain ⟨d,z,ne,ob,mA,n,r,q⟩:=(show Zcd P w H h a (.ins C dx fs) from hok a _ e)
 exact ⟨mA,⟨ob,n,ne⟩,r,q,z,d⟩
end
structure Cls(K:W.Frag)(C:Addr):Prop where
 pg:W.plainGet K C Str.empty=true
 hd:W.hasDictIn K C=true
 po:W.plainOver K C=true
 sa:W.findIn K (.ref C) "__setattr__"=some (some (.builtin "object.__setattr__"))
theorem Cls.get{K:W.Frag}{C:Addr}(c:Cls K C)(f:Str):W.plainGet K C f=true:=c.pg
def Zde(K:W.Frag)(C:Addr)(f:Str):Prop:=W.findIn K (.ref C) f=some none
theorem Zde.taker{K:W.Frag}{C:Addr}{f:Str}(n:Zde K C f):W.takerIn K C f=some none:=by
 unfold W.takerIn
 rw [show W.findIn K (.ref C) f=some none from n]
 rfl
structure Meth(K:W.Frag)(C:Addr)(m:Str)(f:Addr):Prop where
 at_:W.findIn K (.ref C) m=some (some (.ref f))
 fn:W.isFn K (.ref f)=true
 kp:W.keepIn K (.ref f)=true
section
variable{X:Cx}{pins:List (Addr×Obj)}{σ:St}{H:Hp}{s:Shared}{a C dx:Addr}{fs:List (Str×V)}{f:Str}{v:V}{A:Around}{E:Value→Shared→Prop}
theorem ZiX{b:Bool}{Q:Value→Shared→Prop}(I:Inv X pins σ H s)(e:H a=some (.ins C dx fs))(c:Cls X.K C)(n:Zde X.K C f)(l:fs.lookup f=some v)
  (h:∀u s',Inv X pins σ H s'→RelV v u→Q u s'):wpAny (model X.prog X.w) A (getAttr (.ref a) f b) Q E s:=by
 obtain ⟨mA,O,r,_,_,_⟩:=Zgx I.hok e
 obtain ⟨u,hu,ru⟩:=RelO.some_of (v:=v) (o:=mA f) (by rw [←l];exact r f)
 exact Znm I.kIn O (c.get f) c.hd n hu (Zjs ru) (h u _ (I.tok _) ru)
theorem ZiV{m:Str}{g:Addr}{pl:Sem Bool}{Q:Value×List Value→Shared→Prop}(I:Inv X pins σ H s)(e:H a=some (.ins C dx fs))(c:Cls X.K C)(k:Meth X.K C m g)(l:fs.lookup m=none)
  (h:Q (.ref g,[.ref a]) s):wpAny (model X.prog X.w) A (getMethod (.ref a) m pl) Q E s:=by
 obtain ⟨mA,O,r,_,_,_⟩:=Zgx I.hok e
 have hn:mA m=none:=RelO.none_of (by rw [←l];exact r m)
 exact ZlT I.kIn O (c.get m) k.at_ k.fn hn h
theorem Zje{y:V}{u:Value}{Q:Unit→Shared→Prop}(I:Inv X pins σ H s)(e:H a=some (.ins C dx fs))(c:Cls X.K C)(n:Zde X.K C f)(hl:fs.length<1000)(ry:RelV y u)
  (h:∀s',Inv X pins σ (upd H a (.ins C dx (putF f y fs))) s'→Q () s'):wpAny (model X.prog X.w) A (setAttr (.ref a) f u) Q E s:=by
 obtain ⟨mA,O,r,wi,_,ho⟩:=Zgx I.hok e
 have hz:(fs.map (·.1)).length≤sizeLine:=by rw [List.length_map,sizeLine_eq];omega
 refine Zni I.kIn O c.sa c.po n.taker c.hd wi hz fun h' O' sb=>h _ ?_
 have hd:∃o,h'.get? dx=some o:=let ⟨o,_,_,e',_⟩:=O'.ns;⟨o,e'⟩
 refine I.write (x:=a) (e:=dx) (by rw [e];exact True.intro) (.inr ho) (fun b q hb z=>(sb.2 b hb).trans z) hd ?_
 refine ⟨by rw [Zar O.ne];exact ho,?_,O.ne,O'.obj,_,O'.ns,fun g=>?_,fun g hg=>?_⟩
 ·have:=ZfD f y fs;omega
 ·show RelO ((putF f y fs).lookup g) (if g=f then some u else mA g)
  rw [Zfh]
  by_cases q:g=f
  ·rw [if_pos q,if_pos q];exact ry
  ·rw [if_neg q,if_neg q];exact r g
 ·by_cases q:g=f
  ·rw [q];exact (Zfl f y fs).1
  ·refine (Zfl f y fs).2 g (wi g fun z=>hg ?_)
   show (if g=f then some u else mA g)=none
   rw [if_neg q];exact z
theorem Inv.made(I:Inv X pins σ H s):Inv X pins σ (upd (upd H s.heap.objs.size (.own (s.heap.objs.size+1))) (s.heap.objs.size+1) (.ins C s.heap.objs.size []))
  { s with heap:=(s.heap.push W.emptyDict).push (W.instObj C s.heap.objs.size) }:=by
 have e1:(s.heap.push W.emptyDict).get? s.heap.objs.size=some W.emptyDict:=Heap.get?_push_size s.heap rfl
 have e2:((s.heap.push W.emptyDict).push (W.instObj C s.heap.objs.size)).get? (s.heap.objs.size+1)=some (W.instObj C s.heap.objs.size):=by
  have:=Heap.get?_push_size (s.heap.push W.emptyDict) (o:=W.instObj C s.heap.objs.size) rfl
  rwa [Heap.size_push] at this
 have e3:(s.heap.push W.emptyDict).Ns s.heap.objs.size (fun _=>none):=⟨W.emptyDict,#[],_,e1,rfl,(fun e he=>absurd he (by simp)),fun _=>rfl⟩
 have I1:=I.laid (a:=s.heap.objs.size) (o:=.own (s.heap.objs.size+1)) (h':=s.heap.push W.emptyDict) (t':=s.toks) (fun b u q=>Heap.get?_push_of_some _ q) (Nat.le_refl _) ⟨_,e1⟩
 refine I1.laid (a:=s.heap.objs.size+1) (o:=.ins C s.heap.objs.size []) (t':=s.toks) (fun b u q=>Heap.get?_push_of_some _ q) (Nat.le_of_eq (Heap.size_push _ _)) ?_
 have ne:s.heap.objs.size≠s.heap.objs.size+1:=Nat.ne_of_lt (Nat.lt_succ_self _)
 refine ⟨by rw [Zar ne,Zal],Nat.zero_le _,ne,e2,fun _=>none,(Heap.Ns1.of_empty e3).at fun o q=>Heap.get?_push_of_some _ q,fun _=>True.intro,fun y hy=>absurd rfl hy⟩
theorem Zn0{prog:Program}{w:World}{env:Env}{e:Expr}{f:Str}{pos:Pos}{s:Shared}{Q:Value→Shared→Prop}(hb:attributeBase e f env (eval e env)=eval e env)
  (h:wpAny (model prog w) A (eval e env) (fun o s₁=>wpAny (model prog w) A (getAttr o f true) Q E s₁) E s):wpAny (model prog w) A (eval (.Attribute e f pos) env) Q E s :=
 Attribute_any_ h (by rw [arm_eval_Attribute,hb])
end
def tFld(K:W.Frag)(ta:TE)(f:Str):TE:=fun σ H Q=>ta σ H fun x H1=>∃a C dx fs v,x=.ref a∧H1 a=some (.ins C dx fs)∧Cls K C∧Zde K C f∧fs.lookup f=some v∧Q v H1
def sFld(K:W.Frag)(ta tv:TE)(f:Str):TS:=fun D σ H=>tv σ H fun y H1=>ta σ H1 fun x H2=>∃a C dx fs,x=.ref a∧H2 a=some (.ins C dx fs)∧Cls K C∧Zde K C f∧fs.length<1000 ∧
 D.nx σ (upd H2 a (.ins C dx (putF f y fs)))
section
variable{X:Cx}{o e value:Expr}{f:Str}{pos pos' tpos:Pos}{ta tv:TE}
theorem ZpD(he:PE X e ta)(hb:attributeBase e f X.env (eval e X.env)=eval e X.env):PE X (.Attribute e f pos) (tFld X.K ta f):=by
 intro pins s σ H Q I h
 refine Zn0 hb (thn (he pins s σ H _ I h) fun u s1 ⟨x,H1,I1,rx,a,C,dx,fs,v,ex,ea,c,n,l,q⟩=>?_)
 subst ex
 obtain rfl:u=Value.ref a:=rx
 exact ZiX I1 ea c n l fun u' s2 I2 ru=>⟨v,H1,I2,ru,q⟩
theorem ZmE(ha:PE X o ta)(hv:PE X value tv)(hs:swapsWith value (some (.Attribute o f pos')) pos.line X.env=pure false):PS X (.Assign [.Attribute o f pos'] value pos) (sFld X.K ta tv f):=by
 intro pins s σ H D I h
 refine plainObj_wpAny_Assign_Attribute (thn (hv pins s σ H _ I h) fun u s1 ⟨y,H1,I1,ry,q⟩=>thn (ha pins s1 σ H1 _ I1 q) fun ov s2 ⟨x,H2,I2,rx,a,C,dx,fs,ex,ea,c,n,l,q2⟩=>?_) hs
 subst ex
 obtain rfl:ov=Value.ref a:=rx
 exact Zje I2 ea c n l ry fun s3 I3=>⟨σ,_,I3,q2⟩
end
section
variable{X:Cx}{pins:List (Addr×Obj)}{σ:St}{H:Hp}{s:Shared}{A:Around}{E:Value→Shared→Prop}{Q:Value→Shared→Prop}{c:Value}{b:Bool}
inductive TyOf(K:W.Frag)(H:Hp):V→Value→Prop where
 | non:TyOf K H .non (.type "NoneType")
 | bl (x:Bool):TyOf K H (.bl x) (.type "bool")
 | int (i:Int):TyOf K H (.int i) (.type "int")
 | str (x:Str):TyOf K H (.str x) (.type "str")
 | flt (x:UInt64):TyOf K H (.flt x) (.type "float")
 | lst {a:Addr} {xs:List V} (e:H a=some (.lst xs)):TyOf K H (.ref a) (.type "list")
 | frz {a:Addr} {o:Obj} {xs:List V} (e:H a=some (.frz o (.lst xs))):TyOf K H (.ref a) (.type "list")
 | tup {a:Addr} {xs:List V} (e:H a=some (.tup xs)):TyOf K H (.ref a) (.type "tuple")
 | dK {a:Addr} {kvs:List (Key×V)} (e:H a=some (.dK kvs)):TyOf K H (.ref a) (.type "dict")
 | dT {a:Addr} {kvs:List (List Key×V)} (e:H a=some (.dT kvs)):TyOf K H (.ref a) (.type "dict")
 | ins {a C dx:Addr} {fs:List (Str×V)} (e:H a=some (.ins C dx fs)) (cl:Cls K C) (ha:W.findIn K (.ref C) "__class__"=some (some (.builtin "object.__class__")))
   (hn:W.specialIn K (.builtin "object.__class__") "__get__"=some (some (.builtin "getset_descriptor.__get__"))) (htk:W.takesIn K (.builtin "object.__class__")=some true)
   (hm:W.mroIn K C (.type "object")=some true):TyOf K H (.ref a) (.ref C)
theorem Zc7{x:V}{u t:Value}(I:Inv X pins σ H s)(rx:RelV x u)(ty:TyOf X.K H x t)(e:W.kitOne X.K t c=some b)(h:∀tk,Q (.bool b) { s with toks:=tk }) :
  wpAny (model X.prog X.w) A (call (.builtin "isinstance") [u,c]) Q E s:=by
 cases ty with
 | non=>cases (show u=Value.none from rx);exact W.kia_one W.kitx_none I.kIn True.intro e (fun z=>nomatch z) h
 | bl y=>cases (show u=Value.bool y from rx);exact W.kia_one W.kitx_bool I.kIn True.intro e (fun z=>nomatch z) h
 | int i=>obtain ⟨t,q⟩:=(show ∃t,u=Value.int i t from rx);cases q;exact W.kia_one W.kitx_int I.kIn True.intro e (fun z=>nomatch z) h
 | str y=>obtain ⟨t,q⟩:=(show ∃t,u=Value.str y t from rx);cases q;exact W.kia_one W.kitx_str I.kIn True.intro e (fun z=>nomatch z) h
 | flt y=>obtain ⟨t,q⟩:=(show ∃t,u=Value.float y t from rx);cases q;exact W.kia_one W.kitx_float I.kIn True.intro e (fun z=>nomatch z) h
 | @lst a xs ea =>
  cases (show u=Value.ref a from rx)
  obtain ⟨_,_,n,_,h1⟩:=(show Zcd X.prog X.w H s.heap a (.lst xs) from I.hok a _ ea)
  exact W.kia_one W.kitx_list I.kIn ⟨_,h1,rfl⟩ e (fun z=>nomatch z) h
 | @frz a ob xs ea =>
  cases (show u=Value.ref a from rx)
  obtain ⟨_,_,_,n,_,h1⟩:=(show Zcd X.prog X.w H s.heap a (.frz ob (.lst xs)) from I.hok a _ ea)
  exact W.kia_one W.kitx_list I.kIn ⟨_,h1,rfl⟩ e (fun z=>nomatch z) h
 | @tup a xs ea =>
  cases (show u=Value.ref a from rx)
  obtain ⟨_,_,_,p⟩:=(show Zcd X.prog X.w H s.heap a (.tup xs) from I.hok a _ ea)
  obtain ⟨o,h1,h2,_⟩:=p
  exact W.kia_one W.kitx_tuple I.kIn ⟨o,h1,h2⟩ e (fun z=>nomatch z) h
 | @dK a kvs ea =>
  cases (show u=Value.ref a from rx)
  obtain ⟨_,_,vs,_,p⟩:=(show Zcd X.prog X.w H s.heap a (.dK kvs) from I.hok a _ ea)
  obtain ⟨o,es,ep,h1,h2,_⟩:=p
  exact W.kia_one W.kitx_dict I.kIn ⟨o,h1,h2.1⟩ e (fun z=>nomatch z) h
 | @dT a kvs ea =>
  cases (show u=Value.ref a from rx)
  obtain ⟨_,_,xs,_,o,es,ep,h1,h2,_⟩:=(show Zcd X.prog X.w H s.heap a (.dT kvs) from I.hok a _ ea)
  exact W.kia_one W.kitx_dict I.kIn ⟨o,h1,h2.1⟩ e (fun z=>nomatch z) h
 | @ins a C dx fs ea cl ha hn htk hm =>
  cases (show u=Value.ref a from rx)
  obtain ⟨mA,O,_⟩:=Zgx I.hok ea
  obtain ⟨od,J,_⟩:=O.look
  exact W.kia_one (W.kitx_own (cl.get _) cl.hd ha hn htk hm) I.kIn J e (fun z=>nomatch z) h
end
structure Room(k:Nat)(A:Around):Prop where
 hd:A.handled=none
 dp:A.depth+3*k+5<recursionLimit
 un:A.units+16*k+200<cLine
theorem Room.mono{j k:Nat}{A:Around}(r:Room k A)(h:j≤k):Room j A:=⟨r.hd,by have:=r.dp;omega,by have:=r.un;omega⟩
theorem Room.deeper{k:Nat}{A:Around}(r:Room (k+1) A)(env:Env):Room k (A.deeper env) :=
 ⟨r.hd,by have:=r.dp;show A.depth+1+3*k+5<_;omega,by have:=r.un;show A.units+3+16*k+200<_;omega⟩
theorem Zjg{A:Around}{C:Addr}{us:List Value}{kw:List (Str×Value)}:(A.under (.builtin "type.__call__" ⟨.ref C::us,kw⟩)).depth=A.depth+1:=by
 first | rfl | simp [Around.under,Code.weight,Code.isCreation,Code.isGuard,Code.isCaller,Code.frames,Code.isFrame,guardIds]
theorem Zja{A:Around}{C:Addr}{us:List Value}{kw:List (Str×Value)}:(A.under (.builtin "type.__call__" ⟨.ref C::us,kw⟩)).units=A.units+1:=by
 first | rfl | simp [Around.under,Code.cUnits,Code.frames,Code.isFrame]
theorem Room.make{k:Nat}{A:Around}(r:Room (k+1) A)(C:Addr)(us:List Value)(kw:List (Str×Value)):Room k (A.under (.builtin "type.__call__" ⟨.ref C::us,kw⟩)) :=
 ⟨r.hd,by have:=r.dp;rw [Zjg];omega,by have:=r.un;rw [Zja];omega⟩
theorem Room.depth{k:Nat}{A:Around}(r:Room k A):A.depth<recursionLimit:=by have:=r.dp;omega
theorem Room.units{k:Nat}{A:Around}(r:Room k A):A.units+64<cLine:=by have:=r.un;omega
def tNil:TA:=fun _ H Q=>Q [] H
def ZdA(ta:TE)(tr:TA):TA:=fun σ H Q=>ta σ H fun x H1=>tr σ H1 fun xs H2=>Q (x::xs) H2
section
variable{X:Cx}{e:Expr}{es:List Expr}{te:TE}{t:TA}{pos:Pos}
theorem ZdE:PA X [] tNil:=fun _ _ _ _ H Q I h=>Calls.spliced_nil ⟨[],H,I,.nil,h⟩
theorem Zcs(ha:PE X e te)(hr:PA X es t)(hs:starEach (e::es) X.env=(false,eval e X.env)::starEach es X.env:=by rfl):PA X (e::es) (ZdA te t):=by
 intro pos pins s σ H Q I h
 rw [hs]
 show wpAny _ _ (spliced ((false,eval e X.env)::backTo pos (starEach es X.env))) _ _ s
 refine Calls.spliced_cons (thn (ha pins s σ H _ I h) fun u s1 ⟨x,H1,I1,r1,q1⟩=>?_)
 exact thn (hr pos pins s1 σ H1 _ I1 q1) fun us s2 ⟨xs,H2,I2,r2,q2⟩=>⟨x::xs,H2,I2,.cons r1 r2,q2⟩
def tTup(t:TA):TE:=fun σ H Q=>t σ H fun xs H1=>xs.length≤sizeLine∧∀p,H1 p=none→Q (.ref p) (upd H1 p (.tup xs))
def tLst(t:TA):TE:=fun σ H Q=>t σ H fun xs H1=>xs.length≤sizeLine∧∀p,H1 p=none→Q (.ref p) (upd H1 p (.lst xs))
theorem Zqi{x1}(h:PA X es t):PE X (.Tuple es x1 pos) (tTup t):=by
 intro pins s σ H Q I hq
 refine wpAny_Tuple_spliced (thn (h pos pins s σ H _ I hq) fun us s1 ⟨xs,H1,I1,r,z,q⟩=>⟨by rw [←r.length];exact z,?_⟩)
 have hf:H1 s1.heap.objs.size=none:=I1.hok.fresh (Nat.le_refl _)
 refine ⟨.ref s1.heap.objs.size,upd H1 s1.heap.objs.size (.tup xs),I1.laid (t':=s1.toks) (fun b u e=>Heap.get?_push_of_some _ e) (Nat.le_refl _) ?_,rfl,q _ hf⟩
 exact ⟨z,us,r,⟨_,Heap.get?_push_size _ rfl,rfl,_,rfl⟩⟩
theorem Zhb(h:PA X es t):PE X (.List es pos) (tLst t):=by
 intro pins s σ H Q I hq
 refine wpAny_List_spliced (thn (h pos pins s σ H _ I hq) fun us s1 ⟨xs,H1,I1,r,z,q⟩=>⟨by rw [←r.length];exact z,?_⟩)
 have hf:H1 s1.heap.objs.size=none:=I1.hok.fresh (Nat.le_refl _)
 refine ⟨.ref s1.heap.objs.size,upd H1 s1.heap.objs.size (.lst xs),I1.laid (t':=s1.toks) (fun b u e=>Heap.get?_push_of_some _ e) (Nat.le_refl _) ?_,rfl,q _ hf⟩
 exact ⟨z,us,0,r,Heap.get?_push_size _ rfl⟩
end
abbrev Sp:=List V→Hp→VK→XK→Prop
abbrev CXT:=List Env→Hp→Shared→XK→Value→Shared→Prop
structure Env0(P:Program)(w:World)(K:W.Frag)(mg:Str→Option Value)(base:Heap)(A:Around)(outer:List Env)(s:Shared)(H:Hp):Prop where
 frames:A.frames=some outer
 mod:Mod K mg base
 bs:∀b o,base.get? b=some o→s.heap.get? b=some o∧H b=none
 bsz:base.objs.size≤s.heap.objs.size
 funs:s.heap.FunFrames base outer
 frf:∀b∈frs outer,H b=none
 hok:HOk P w H s.heap
 bare:AllBare s.gens
def CE(outer:List Env)(P:Program)(w:World)(H:Hp)(s:Shared)(Q:VK)(u:Value)(s':Shared):Prop :=
 ∃v H',s'.os=s.os∧AllBare s'.gens∧Un (frs outer) [] H H' s.heap s'.heap∧HOk P w H' s'.heap∧RelV v u∧Q v H'
def CR(CX:CXT)(outer:List Env)(P:Program)(w:World)(H:Hp)(s:Shared)(Q:VK)(E:XK)(r:Result)(s':Shared):Prop :=
 match r with
 | .ok (.ret u)=>CE outer P w H s Q u s'
 | .ok _=>False
 | .error e=>CX outer H s E e s'
structure FnOk(P:Program)(w:World)(K:W.Frag)(mg:Str→Option Value)(base:Heap)(CX:CXT)(k:Nat)(f:Addr)(fd:FuncData)(ps:List Str)(sp:Sp):Prop where
 len:∀vs H Q E,sp vs H Q E→vs.length=ps.length
 run:∀(A:Around) (outer:List Env) (s:Shared) (H:Hp) (args:Args) (us:List Value) (vs:List V) (Q:VK) (E:XK),Room k A→Env0 P w K mg base A outer s H→BindsTo s fd args (ps.zip us)→Vals vs us→sp vs H Q E →
  codeAny (model P w) A (.call (.ref f) args) (CR CX outer P w H s Q E) s
theorem FnOk.mono{P:Program}{w:World}{K:W.Frag}{mg:Str→Option Value}{base:Heap}{CX:CXT}{j k:Nat}{f:Addr}{fd:FuncData}{ps:List Str}{sp:Sp}(F:FnOk P w K mg base CX j f fd ps sp)(h:j≤k) :
  FnOk P w K mg base CX k f fd ps sp:=⟨F.len,fun A outer s H args us vs Q E hr=>F.run A outer s H args us vs Q E (hr.mono h)⟩
theorem FnOk.imp{P:Program}{w:World}{K:W.Frag}{mg:Str→Option Value}{base:Heap}{CX:CXT}{k:Nat}{f:Addr}{fd:FuncData}{ps:List Str}{sp sp':Sp}(F:FnOk P w K mg base CX k f fd ps sp)
  (h:∀vs H Q E,sp' vs H Q E→sp vs H Q E):FnOk P w K mg base CX k f fd ps sp' :=
 ⟨fun vs H Q E q=>F.len vs H Q E (h _ _ _ _ q),fun A outer s H args us vs Q E hr he hb hv hs=>F.run A outer s H args us vs Q E hr he hb hv (h _ _ _ _ hs)⟩
theorem Env0.make{P:Program}{w:World}{K:W.Frag}{mg:Str→Option Value}{base:Heap}{A:Around}{outer:List Env}{s:Shared}{H:Hp}(e:Env0 P w K mg base A outer s H)(C:Addr)(us:List Value)(kw:List (Str×Value)) :
  Env0 P w K mg base (A.under (.builtin "type.__call__" ⟨.ref C::us,kw⟩)) outer s H:=⟨by first | exact e.frames | (simpa [Around.under,Code.envs,Code.isFrame,pushEnvs] using e.frames),e.mod,e.bs,e.bsz,e.funs,e.frf,e.hok,e.bare⟩
section
variable{X:Cx}{pins:List (Addr×Obj)}{σ:St}{H:Hp}{s s':Shared}
theorem Inv.env0(I:Inv X pins σ H s):Env0 X.prog X.w X.K X.mg X.base X.A X.stack s H :=
 ⟨I.ok.frames,I.ok.mod,I.bs,Nat.le_trans I.ok.bsz I.sz,I.stack,I.stkFree,I.hok,I.bare⟩
theorem Inv.after{Q:VK}{u:Value}(I:Inv X pins σ H s)(h:CE X.stack X.prog X.w H s Q u s'):EP X pins σ Q u s':=by
 obtain ⟨v,H',os,bare,un,hok,r,q⟩:=h
 obtain ⟨hh,g,d,t,os'⟩:=s'
 obtain rfl:os'=s.os:=os
 exact ⟨v,H',I.call (h':=hh) (g':=g) (d':=d) (t':=t) (ch:=[]) un hok bare (fun b z=>absurd z (by simp)),r,q⟩
end
def ZhI(sp:Sp)(dvs:List V)(E:XK)(t:TA):TE:=fun σ H Q=>t σ H fun vs H1=>sp (vs++dvs) H1 Q E
def ZnP(C:Addr)(sp:Sp)(dvs:List V)(E:XK)(t:TA):TE:=fun σ H Q=>t σ H fun vs H1=>∀x dx,H1 x=none→H1 dx=none→dx≠x →
 sp (.ref x::(vs++dvs)) (upd (upd H1 dx (.own x)) x (.ins C dx [])) (fun v H2=>v=.non∧Q (.ref x) H2) E
def Binds(K:W.Frag)(fd:FuncData)(ps:List Str)(ds:List Value):Prop :=
 ∀(s:Shared) (us:List Value),K.In s.heap→(us++ds).length=ps.length→BindsTo s fd ⟨us,[]⟩ (ps.zip (us++ds))
theorem Binds.all{K:W.Frag}{fd:FuncData}{ps:List Str}(h:∀us:List Value,us.length=ps.length→bindArgs fd ⟨us,[]⟩=pure (ps.zip us)):Binds K fd ps []:=fun s us _ hl=>by
 rw [List.append_nil] at hl ⊢
 exact .of_eq (h us hl)
def Zch(CX:CXT)(X:Cx)(E:XK):Prop:=∀(pins:List (Addr×Obj)) (σ:St) (H:Hp) (s:Shared) (e:Value) (s':Shared),Inv X pins σ H s→CX X.stack H s E e s'→X.xe e s'
section
variable{X:Cx}{CX:CXT}{k:Nat}{f C:Addr}{fd:FuncData}{ps:List Str}{sp:Sp}{dvs:List V}{ds:List Value}{E:XK}{x m:Str}{p pos apos:Pos}{e o:Expr}{es:List Expr}{ta:TE}{t:TA}
theorem Zku{pins:List (Addr×Obj)}{σ:St}{H:Hp}{s:Shared}{Q:VK}{us:List Value}{vs:List V}(F:FnOk X.prog X.w X.K X.mg X.base CX k f fd ps sp)(hr:Room k X.A)(hb:Binds X.K fd ps ds)(hd:Vals dvs ds)(hx:Zch CX X E)
  (I:Inv X pins σ H s) (r:Vals vs us) (h:sp (vs++dvs) H Q E):wpAny (model X.prog X.w) X.A (call (.ref f) us) (EP X pins σ Q) X.xe s:=by
 have r2:Vals (vs++dvs) (us++ds):=r.append hd
 have hl:(us++ds).length=ps.length:=by rw [←r2.length];exact F.len _ _ _ _ h
 refine wpAny_call (codeAny_mono (F.run X.A X.stack s H ⟨us,[]⟩ (us++ds) (vs++dvs) Q E hr I.env0 (hb s us I.kIn hl) r2 h) fun r s' hq=>?_)
 cases r with
 | error e=>exact hx pins σ H s e s' I hq
 | ok fl =>
  cases fl with
  | ret u=>exact I.after hq
  | next=>exact False.elim hq
  | brk=>exact False.elim hq
  | cont=>exact False.elim hq
theorem ZkA(F:FnOk X.prog X.w X.K X.mg X.base CX k f fd ps sp)(hr:Room k X.A)(hg:Gl X x)(hm:X.mg x=some (.ref f))(hk:W.keepIn X.K (.ref f)=true)(hb:Binds X.K fd ps ds)(hd:Vals dvs ds)(hx:Zch CX X E)
  (ha:PA X (e::es) t) (hdb:(x==("__debug__" : Str))=false:=by decide) (he:starEach (e::es) X.env=(false,eval e X.env)::starEach es X.env:=by rfl) (hpl:(backTo pos (starEach es X.env)).any (·.1)=false:=by rfl) :
  PE X (.Call (.Name x p) (e::es) [] pos) (ZhI sp dvs E t):=by
 intro pins s σ H Q I h
 refine wpAny_Call_Name_kw (ZgU I hg hm ?_ hdb)
 refine W.callWith_K (h₀:=X.base) I.ok.mod.kin hk (thn (ha pos pins s σ H _ I h) fun us s1 ⟨vs,H1,I1,r,q⟩=>⟨I1.kIn,?_⟩) he hpl
 exact Zku F hr hb hd hx I1 r q
structure Mk(K:W.Frag)(C f:Addr):Prop where
 makes:W.makesIn K C=true
 init:W.findIn K (.ref C) "__init__"=some (some (.ref f))
 fn:W.isFn K (.ref f)=true
 kp:W.keepIn K (.ref C)=true
theorem Zl0{pins:List (Addr×Obj)}{σ:St}{H:Hp}{s:Shared}{Q:VK}{us:List Value}{vs:List V}(M:Mk X.K C f)(F:FnOk X.prog X.w X.K X.mg X.base CX k f fd ps sp)(hr:Room (k+1) X.A)(hb:Binds X.K fd ps ds)(hd:Vals dvs ds)
  (hx:Zch CX X E) (I:Inv X pins σ H s) (r:Vals vs us)
  (h:∀x dx,H x=none→H dx=none→dx≠x→sp (.ref x::(vs++dvs)) (upd (upd H dx (.own x)) x (.ins C dx [])) (fun v H2=>v=.non∧Q (.ref x) H2) E) :
  wpAny (model X.prog X.w) X.A (call (.ref C) us) (EP X pins σ Q) X.xe s:=by
 have hq:=h (s.heap.objs.size+1) s.heap.objs.size (I.hok.fresh (Nat.le_succ _)) (I.hok.fresh (Nat.le_refl _)) (Nat.ne_of_lt (Nat.lt_succ_self _))
 have I2:=Inv.made (C:=C) I
 have r2:Vals (V.ref (s.heap.objs.size+1)::(vs++dvs)) (Value.ref (s.heap.objs.size+1)::(us++ds)):=.cons rfl (r.append hd)
 have hl:(Value.ref (s.heap.objs.size+1)::us++ds).length=ps.length:=by
  have e:=r2.length
  rw [F.len _ _ _ _ hq] at e
  exact e.symm
 refine wpAny_call (ZlP (f:=f) I.kIn M.makes M.init (beq_iff_eq.mp M.fn) (codeAny_mono (F.run _ X.stack _ _ ⟨Value.ref (s.heap.objs.size+1)::us,[]⟩ (Value.ref (s.heap.objs.size+1)::(us++ds)) _ _ E (hr.make C us [])
  (I2.env0.make C us []) (hb _ (Value.ref (s.heap.objs.size+1)::us) I2.kIn hl) r2 hq) fun r s' hq'=>?_))
 cases r with
 | error e=>exact hx pins σ _ _ e s' I2 hq'
 | ok fl =>
  cases fl with
  | ret u =>
   obtain ⟨v,H',I3,rv,ev,q3⟩:=I2.after hq'
   subst ev
   exact ⟨rv,⟨V.ref (s.heap.objs.size+1),H',I3,rfl,q3⟩⟩
  | next=>exact False.elim hq'
  | brk=>exact False.elim hq'
  | cont=>exact False.elim hq'
theorem Zm8(M:Mk X.K C f)(F:FnOk X.prog X.w X.K X.mg X.base CX k f fd ps sp)(hr:Room (k+1) X.A)(hg:Gl X x)(hm:X.mg x=some (.ref C))(hb:Binds X.K fd ps ds)(hd:Vals dvs ds)(hx:Zch CX X E)
  (ha:PA X (e::es) t) (hdb:(x==("__debug__" : Str))=false:=by decide) (he:starEach (e::es) X.env=(false,eval e X.env)::starEach es X.env:=by rfl) (hpl:(backTo pos (starEach es X.env)).any (·.1)=false:=by rfl) :
  PE X (.Call (.Name x p) (e::es) [] pos) (ZnP C sp dvs E t):=by
 intro pins s σ H Q I h
 refine wpAny_Call_Name_kw (ZgU I hg hm ?_ hdb)
 refine W.callWith_K (h₀:=X.base) I.ok.mod.kin M.kp (thn (ha pos pins s σ H _ I h) fun us s1 ⟨vs,H1,I1,r,q⟩=>⟨I1.kIn,?_⟩) he hpl
 exact Zl0 M F hr hb hd hx I1 r q
end
structure Zaj(N P:List Str)(sc:Scope):Prop where
 kind:sc.kind=.function
 co:sc.isCoroutine=false
 gen:sc.isGenerator=false
 nd:N.Nodup
 pre:N.take P.length=P
 par:∀x∈P,sc.names.lookup x=some .local∨sc.names.lookup x=some .cell
 nofree:∀y∈sc.names,y.2≠.free
theorem Zho{kindOf:Str→Option NameKind}{x:Str}:∀{binds:List (Str×Value)} {m:Str→Option Value},(∀v,(x,v)∉binds)→bindL kindOf binds m x=m x
 | [],_,_=>rfl
 | (n,v)::r,m,h=>by
  unfold bindL
  rw [Zho fun w hw=>h w (List.mem_cons_of_mem _ hw)]
  split
  ·have:x≠n:=by rintro rfl;exact h v List.mem_cons_self
   simp [this]
  ·rfl
theorem Zhg{kindOf:Str→Option NameKind}{x:Str}:∀{binds:List (Str×Value)} {m:Str→Option Value},(∀v,(x,v)∉binds)→bindC kindOf binds m x=m x
 | [],_,_=>rfl
 | (n,v)::r,m,h=>by
  unfold bindC
  rw [Zhg fun w hw=>h w (List.mem_cons_of_mem _ hw)]
  split
  ·rfl
  ·have:x≠n:=by rintro rfl;exact h v List.mem_cons_self
   simp [this]
theorem Zhl{kindOf:Str→Option NameKind}{x:Str}{v:Value}:∀{P:List Str} {vs:List Value} {i:Nat} {m:Str→Option Value},P.Nodup→P[i]?=some x→vs[i]?=some v→kindOf x=some .local →
  bindL kindOf (P.zip vs) m x=some v
 | [],_,_,_,_,h,_,_=>by simp at h
 | _::_,[],_,_,_,_,h,_=>by simp at h
 | p::P,w::vs,0,m,nd,h1,h2,hk=>by
  simp at h1 h2;subst h1;subst h2
  show bindL kindOf ((p,w)::P.zip vs) m p=_
  unfold bindL
  rw [Zho fun v hv=>(List.nodup_cons.mp nd).1 (List.of_mem_zip hv).1,if_pos hk]
  simp
 | p::P,w::vs,i+1,m,nd,h1,h2,hk=>by
  show bindL kindOf ((p,w)::P.zip vs) m x=_
  unfold bindL
  exact Zhl (i:=i) (List.nodup_cons.mp nd).2 (by simpa using h1) (by simpa using h2) hk
theorem ZhH{kindOf:Str→Option NameKind}{x:Str}{v:Value}:∀{P:List Str} {vs:List Value} {i:Nat} {m:Str→Option Value},P.Nodup→P[i]?=some x→vs[i]?=some v→kindOf x≠some .local →
  bindC kindOf (P.zip vs) m x=some v
 | [],_,_,_,_,h,_,_=>by simp at h
 | _::_,[],_,_,_,_,h,_=>by simp at h
 | p::P,w::vs,0,m,nd,h1,h2,hk=>by
  simp at h1 h2;subst h1;subst h2
  show bindC kindOf ((p,w)::P.zip vs) m p=_
  unfold bindC
  rw [Zhg fun v hv=>(List.nodup_cons.mp nd).1 (List.of_mem_zip hv).1,if_neg hk]
  simp
 | p::P,w::vs,i+1,m,nd,h1,h2,hk=>by
  show bindC kindOf ((p,w)::P.zip vs) m x=_
  unfold bindC
  exact ZhH (i:=i) (List.nodup_cons.mp nd).2 (by simpa using h1) (by simpa using h2) hk
def start(N:List Str)(vs:List V):St:=vs.map some++List.replicate (N.length - vs.length) none
def cxOf(CX:CXT)(P:Program)(w:World)(K:W.Frag)(mg:Str→Option Value)(base:Heap)(N:List Str)(qual:Str)(scope:Scope)(f:Addr)(cd:Value)(A:Around)(outer:List Env)(s:Shared)(H:Hp)(E:XK):Cx where
 prog:=P
 w:=w
 K:=K
 mg:=mg
 base:=base
 A:=A.deeper (envOfC qual scope s.heap.objs.size f cd)
 N:=N
 s₀:=s
 H₀:=H
 env:=envOfC qual scope s.heap.objs.size f cd
 outer:=outer
 stack:=envOfC qual scope s.heap.objs.size f cd::outer
 ex:=[]
 calm:=true
 fn:=fun _=>true
 pn:=[]
 xe:=fun e s'=>wpAny (model P w) (A.deeper (envOfC qual scope s.heap.objs.size f cd)) (leaving (envOfC qual scope s.heap.objs.size f cd) e) (fun _ s''=>CX outer H s E e s'') (fun e' s''=>CX outer H s E e' s'') s'
theorem ZiJ{sc:Scope}{n:Nat}{x:Str}(h:sc.names.lookup x=some .cell):∃c,(cellsFrom n sc.names []).lookup x=some c:=by
 have q:=W.cellsFrom_some sc.names n [] (.inl h)
 exact Option.isSome_iff_exists.mp q
theorem Zke{CX:CXT}{P:Program}{w:World}{K:W.Frag}{mg:Str→Option Value}{base:Heap}{N ps:List Str}{qual:Str}{scope:Scope}{f:Addr}{cd:Value}{A:Around}{outer:List Env}{s s1:Shared}{H:Hp}{E:XK}{us:List Value}{vs:List V}
  (S:Zaj N ps scope) (hd:A.handled=none) (e0:Env0 P w K mg base A outer s H) (hl:vs.length=ps.length) (r:Vals vs us)
  (x:InCallC s s.heap.objs.size (bindL (envOfC qual scope s.heap.objs.size f cd).kindOf (ps.zip us) fun _=>none) (cellsFrom (s.heap.objs.size+1) scope.names []) (bindC (envOfC qual scope s.heap.objs.size f cd).kindOf (ps.zip us) fun _=>none) s1) :
  Inv (cxOf CX P w K mg base N qual scope f cd A outer s H E) [] (start N vs) H s1:=by
 have hpl:ps.length≤N.length:=by have:=congrArg List.length S.pre;rw [List.length_take] at this;omega
 obtain ⟨h1,tk,rfl,hk⟩:=x.done
 have noA:∀b:Addr,b∉(cxOf CX P w K mg base N qual scope f cd A outer s H E).ex:=fun b z=>absurd (show b∈([]:List Addr) from z) (by simp)
 refine ⟨⟨e0.mod,S.kind,rfl,rfl,Nat.le_refl _,fun y z c h1 h2=>?_,fun y hy=>?_,fun y c _ h=>?_,fun _=>hd,Around.frames_deeper e0.frames,.inr ⟨rfl,rfl⟩,fun b z=>absurd z (noA b),e0.bs,e0.bsz,fun b _ _=>noA b,fun b z=>absurd z (noA b),e0.funs,e0.frf⟩,
  rfl,e0.bare,Un.kept hk,⟨_,x.toInCall.ns,fun i y v h1 h2 h3=>?_⟩,fun y c h=>⟨_,x.cell y c h⟩,e0.hok.fresh (Nat.le_refl _),fun y c h=>?_,fun p hp=>absurd (show p∈([]:List (Addr×Obj)) from hp) (by simp),e0.hok.kept hk,?_⟩
 ·exact name_of_addr x.apart (PySem.mem_of_lookup h1) (PySem.mem_of_lookup h2)
 ·have hy:scope.names.lookup y=some .cell∨scope.names.lookup y=some .free:=hy
  rcases hy with hy | hy
  ·exact ZiJ hy
  ·exact absurd rfl (S.nofree _ (PySem.mem_of_lookup hy))
 ·exact Nat.le_of_lt (x.above y c (PySem.mem_of_lookup h))
 ·have hi:i<vs.length:=by
   unfold start at h2
   by_cases hi:i<vs.length
   ·exact hi
   ·rw [List.getElem?_append_right (by simpa using hi)] at h2
    rw [List.getElem?_replicate] at h2
    split at h2<;>cases h2
  have ha:vs[i]?=some v:=by
   unfold start at h2
   rw [List.getElem?_append_left (by simpa using hi),List.getElem?_map] at h2
   cases e:vs[i]? with
   | none=>rw [e] at h2;cases h2
   | some a=>rw [e] at h2;cases h2;rfl
  obtain ⟨u,hu,rv⟩:=r.get ha
  have hp:ps[i]?=some y:=by
   rw [←S.pre,List.getElem?_take_of_lt (by omega)];exact h1
  have ndP:ps.Nodup:=by rw [←S.pre];exact S.nd.sublist (List.take_sublist _ _)
  refine ⟨u,rv,?_⟩
  rcases S.par y (List.mem_of_getElem? hp) with k | k
  ·exact .inl ⟨k,Zhl ndP hp hu k⟩
  ·obtain ⟨c,e⟩:=ZiJ (n:=s.heap.objs.size+1) k
   refine .inr ⟨.inl k,c,e,?_⟩
   have q:=x.cell y c e
   rw [ZhH ndP hp hu (by show scope.names.lookup y≠_;rw [k];decide)] at q
   exact q
 ·exact e0.hok.fresh (Nat.le_of_lt (x.above y c (PySem.mem_of_lookup h)))
 ·unfold start
  show _=N.length
  rw [List.length_append,List.length_map,List.length_replicate]
  omega
theorem ZkQ{CX:CXT}{P:Program}{w:World}{K:W.Frag}{mg:Str→Option Value}{base:Heap}{k:Nat}{f:Addr}{name qual:Str}{params:Arguments}{body:List Stmt}{scope:Scope}{dV kV doc pm cdv ct oc:Value}{an od:Option Addr}
  {osl:Array (Option Value)} {N ps:List Str} {sp:Sp} (lk:K.lookup f=some ⟨oc,od,.func (W.fnOf name qual params body scope dV kV doc pm an cdv ct),osl⟩) (hcd:W.codeIn K cdv qual=true) (S:Zaj N ps scope)
  (len:∀vs H Q E,sp vs H Q E→vs.length=ps.length)
  (hbody:∀(A:Around) (outer:List Env) (s:Shared) (H:Hp) (vs:List V) (Q:VK) (E:XK),Room k (A.deeper (envOfC qual scope s.heap.objs.size f cdv))→sp vs H Q E →
   ∃t,PSs (cxOf CX P w K mg base N qual scope f cdv A outer s H E) body t∧t { nx:=fun _ H'=>Q .non H',rt:=Q } (start N vs) H) :
  FnOk P w K mg base CX (k+1) f (W.fnOf name qual params body scope dV kV doc pm an cdv ct) ps sp:=by
 refine ⟨len,fun A outer s H args us vs Q E hr e0 hb r hsp=>?_⟩
 have hl:=len _ _ _ _ hsp
 have KX:K.In s.heap:=e0.mod.kin.keeps fun b o e=>(e0.bs b o e).1
 have lim:s.heap.NoLimit:=e0.mod.nolimit.keeps fun b o e=>(e0.bs b o e).1
 have hkind:∀y∈ps.zip us,scope.names.lookup y.1=some .local∨(scope.names.lookup y.1=some .cell∧((cellsFrom (s.heap.objs.size+1) scope.names []).lookup y.1).isSome=true):=fun ⟨n,v⟩ hy=>by
  rcases S.par n (List.of_mem_zip hy).1 with q | q
  ·exact .inl q
  ·exact .inr ⟨q,W.cellsFrom_some _ _ _ (.inl q)⟩
 refine codeAny_call_function hr.depth (KX _ _ lk) rfl S.co S.gen rfl (W.codeRec_of KX hcd) (hb _ _ _ _ ?_)
 refine wpAny_newFunctionEnv_cells S.kind hkind fun env he s1 x=>?_
 subst he
 refine ⟨lim.keeps x.toInCall.keep,codeAny_func ?_⟩
 obtain ⟨t,ht,hq⟩:=hbody A outer s H vs Q E (hr.deeper _) hsp
 have I:Inv (cxOf CX P w K mg base N qual scope f cdv A outer s H E) [] (start N vs) H s1:=Zke S hr.hd e0 hl r x
 refine wpAny_mono (ht [] s1 (start N vs) H _ I hq) (fun fl s' hs=>?_) fun e s' hs=>hs
 have fin:∀{σ':St} {H':Hp} {v:V} {u:Value},Inv (cxOf CX P w K mg base N qual scope f cdv A outer s H E) [] σ' H' s'→RelV v u→Q v H'→CE outer P w H s Q u s' :=
  fun {σ' H' v u} J rv q=>⟨v,H',J.os,J.bare,J.base,J.hok,rv,q⟩
 cases fl with
 | ret u =>
  obtain ⟨v,σ',H',J,rv,q⟩:=hs
  exact fin J rv q
 | next =>
  obtain ⟨σ',H',J,q⟩:=hs
  exact fin (v:=V.non) (u:=Value.none) J rfl q
 | brk =>
  obtain ⟨_,_,_,q⟩:=hs
  exact False.elim q
 | cont =>
  obtain ⟨_,_,_,q⟩:=hs
  exact False.elim q
section
variable{X:Cx}{x:Str}{p pos:Pos}{e:Expr}{es:List Expr}{t:TA}{id T:String}{r:List V→Hp→VK→Prop}
def tCB(r:List V→Hp→VK→Prop)(t:TA):TE:=fun σ H Q=>t σ H fun vs H1=>r vs H1 Q
theorem Zla(hc:ZdV X (.builtin id) r)(hg:Gl X x)(hm:X.mg x=none)(hv:bootBuiltins x=some (.builtin id))(ha:PA X (e::es) t)(hn:x ≠ "__name__" := by decide)(hdb:(x==("__debug__" : Str))=false:=by decide)
  (he:starEach (e::es) X.env=(false,eval e X.env)::starEach es X.env:=by rfl) (hpl:(backTo pos (starEach es X.env)).any (·.1)=false:=by rfl):PE X (.Call (.Name x p) (e::es) [] pos) (tCB r t):=by
 intro pins s σ H Q I h
 refine wpAny_Call_Name_kw (Zhh I hg hm hv ?_ hn hdb)
 exact PyProof.Rows.callWith_builtin1 (thn (ha pos pins s σ H _ I h) fun us s1 ⟨vs,H1,I1,r1,q1⟩=>hc pins s1 σ H1 vs us Q I1 r1 q1) he hpl
theorem ZjQ(hc:ZdV X (.type T) r)(hg:Gl X x)(hm:X.mg x=none)(hv:bootBuiltins x=some (.type T))(ha:PA X (e::es) t)(hn:x ≠ "__name__" := by decide)(hdb:(x==("__debug__" : Str))=false:=by decide)
  (he:starEach (e::es) X.env=(false,eval e X.env)::starEach es X.env:=by rfl) (hpl:(backTo pos (starEach es X.env)).any (·.1)=false:=by rfl):PE X (.Call (.Name x p) (e::es) [] pos) (tCB r t):=by
 intro pins s σ H Q I h
 refine wpAny_Call_Name_kw (Zhh I hg hm hv ?_ hn hdb)
 exact PyProof.Rows.callWith_type1 (thn (ha pos pins s σ H _ I h) fun us s1 ⟨vs,H1,I1,r1,q1⟩=>hc pins s1 σ H1 vs us Q I1 r1 q1) he hpl
end
end L2
namespace HT
open PySem PyProof.Rows
section
open PySem.SeqAt
open PySem.AutoSeq1 (wpAny_loadPart')
open PySem.MeetsSeq PySem.MeetsSeq2 PySem.MeetsSeq3
end
section
variable{prog:Program}{w:World}{A:Around}{E:Value→Shared→Prop}{s:Shared}
theorem ZnO{t b:Addr}{vs ws:List Value}{Q:Value→Shared→Prop}(ht:IsTup s.heap t vs.toArray)(hb:IsTup s.heap b ws.toArray)(hv:vs≠[])
  (h1:ws=[]→Q (.ref t) s) (h2:ws≠[]→Q (.ref s.heap.objs.size) { s with heap:=s.heap.push { cls:=.type "tuple", data:=.seq (vs++ws).toArray } })
  (hsz:vs.length+ws.length≤sizeLine):wpAny (model prog w) A (binaryOp .Add (.ref t) (.ref b)) Q E s:=by
 obtain ⟨⟨cls,dd,data,sl⟩,ho,hc,n,hd⟩:=id ht
 obtain ⟨⟨cls2,dd2,data2,sl2⟩,ho2,hc2,n2,hd2⟩:=id hb
 simp only at hc hd hc2 hd2
 subst hc hd hc2 hd2
 have e:vs.toArray++ws.toArray=(vs++ws).toArray:=by simp
 by_cases hw:ws=[]
 ·exact concat_meets ⟨_,ho,rfl⟩ ⟨_,ho2,rfl⟩ noFill_tuple_add seq_tuple_add PySem.F.slot_tuple_add PySem.F.entry_tuple_add (PySem.F.args_tuple_add_2 _ _)
   (tuple_addW1 t b vs.toArray ws.toArray n n2 dd dd2 sl sl2 (by simpa using hv) (by simp [hw])) ⟨ho,ho2,h1 hw⟩
 ·refine concat_meets ⟨_,ho,rfl⟩ ⟨_,ho2,rfl⟩ noFill_tuple_add seq_tuple_add PySem.F.slot_tuple_add PySem.F.entry_tuple_add (PySem.F.args_tuple_add_2 _ _)
   (tuple_addW2 t b vs.toArray ws.toArray n n2 dd dd2 sl sl2 (by simpa using hv) (by simpa using hw) (by rw [List.size_toArray,List.size_toArray];exact hsz)) ⟨ho,ho2,?_⟩
  rw [e]
  exact h2 hw
def sIx(n d:Nat):Option Int→Nat
 | none=>d
 | some v=>if v<0 then (v+(n:Int)).toNat else min v.toNat n
theorem Zph(n d:Nat)(hd:d≤n)(o:Option Int):sIx n d o≤n:=by
 cases o with
 | none=>exact hd
 | some v =>
  show (if v<0 then (v+(n:Int)).toNat else min v.toNat n)≤n
  by_cases hv:v<0
  ·rw [if_pos hv];omega
  ·rw [if_neg hv];exact Nat.min_le_right _ _
theorem Zkn(v:Int)(n d:Nat):(if v<0 then max (v+(n:Int)) 0 else min v (n:Int))=((sIx n d (some v):Nat):Int):=by
 show (if v<0 then max (v+(n:Int)) 0 else min v (n:Int))=(((if v<0 then (v+(n:Int)).toNat else min v.toNat n):Nat):Int)
 by_cases hv:v<0
 ·simp only [if_pos hv];omega
 ·simp only [if_neg hv];omega
theorem Zi9(lo hi:Option Int)(n:Nat):Builtin.Slice.sliceAdjust lo hi 1 (n:Int)=(((sIx n 0 lo:Nat):Int),((sIx n n hi:Nat):Int)):=by
 have h1:¬((1:Int)<0):=by omega
 unfold Builtin.Slice.sliceAdjust
 simp only [h1,if_false]
 refine Prod.ext ?_ ?_
 ·cases lo with
  | none=>rfl
  | some v=>exact Zkn v n 0
 ·cases hi with
  | none=>rfl
  | some v=>exact Zkn v n n
theorem Zjj(i j:Nat):Builtin.Slice.slicePlaces (i:Int) (j:Int) 1=j - i:=by
 unfold Builtin.Slice.slicePlaces
 have h1:(1:Int)>0:=by omega
 simp only [h1,if_true,Int.ediv_one]
 split<;>omega
theorem Zf4{v:Value}{o:Option Int}{Q:Option Int→Shared→Prop}(p:IsPart v o)(h:Q o s):wpAny (model prog w) A (Builtin.Slice.slicePartIndex v) Q E s:=by
 cases p with
 | none=>exact slicePart_none h
 | int i t=>exact slicePart_int h
theorem Zc1{sl:Addr}{vl vu:Value}{lo hi:Option Int}{n:Nat}{Q:Int×Int×Nat→Shared→Prop}(hs:s.heap.IsSliceOf sl vl vu .none)(pl:IsPart vl lo)(pu:IsPart vu hi)
  (h:Q (((sIx n 0 lo:Nat):Int),1,sIx n n hi - sIx n 0 lo) s):wpAny (model prog w) A (Builtin.Slice.sliceApplied (.ref sl) (pure (n:Int))) Q E s:=by
 obtain ⟨os,hos,hcs,hds⟩:=id hs
 unfold Builtin.Slice.sliceApplied Builtin.Slice.sliceFields
 refine wpAny_bind (wpAny_bind (wpAny_field hos hds (x:=vl) rfl (wpAny_bind (wpAny_field hos hds (x:=vu) rfl (wpAny_bind (wpAny_field hos hds (x:=.none) rfl (wpAny_pure ?_)))))))
 refine wpAny_bind (slicePart_none ?_)
 show wpAny _ _ (if ((1:Int)==0)=true then _ else _) _ _ s
 rw [if_neg (by decide)]
 refine wpAny_bind (Zf4 pl (wpAny_bind (Zf4 pu (wpAny_bind (wpAny_pure ?_)))))
 show wpAny _ _ (match Builtin.Slice.sliceAdjust lo hi 1 (n:Int) with | (lo,hi)=>pure (lo,(1:Int),Builtin.Slice.slicePlaces lo hi 1)) _ _ s
 rw [Zi9 lo hi n]
 show wpAny _ _ (pure (((sIx n 0 lo:Nat):Int),(1:Int),Builtin.Slice.slicePlaces ((sIx n 0 lo:Nat):Int) ((sIx n n hi:Nat):Int) 1)) _ _ s
 rw [Zjj]
 exact wpAny_pure h
theorem ZlD(xs:Array Value)(i k:Nat):((List.range k).filterMap fun (m:Nat)=>xs[((i:Int)+(m:Int)*1).toNat]?).toArray=((xs.toList.drop i).take k).toArray:=by
 have e:(fun (m:Nat)=>xs[((i:Int)+(m:Int)*1).toNat]?)=fun m=>xs[i+m]?:=by
  funext m
  have:((i:Int)+(m:Int)*1).toNat=i+m:=by omega
  rw [this]
 rw [e]
 have:=pick_run xs i k
 rw [List.filterMap_map] at this
 have e2:((fun x=>xs[x]?) ∘ fun x=>i+x)=fun m=>xs[i+m]?:=rfl
 rw [e2] at this
 rw [this]
theorem ZeH{t sl:Addr}{items:Array Value}{vl vu:Value}{lo hi:Option Int}{Q:Value→Shared→Prop}(ht:IsTup s.heap t items)(hs:s.heap.IsSliceOf sl vl vu .none)(pl:IsPart vl lo)(pu:IsPart vu hi)
  (hw:¬(sIx items.size 0 lo=0∧sIx items.size items.size hi=items.size))
  (h:Q (.ref s.heap.objs.size) { s with heap:=s.heap.push { cls:=.type "tuple", data:=.seq ((items.toList.drop (sIx items.size 0 lo)).take (sIx items.size items.size hi - sIx items.size 0 lo)).toArray } })
  (hsz:items.size≤sizeLine):wpAny (model prog w) A (getItem (.ref t) (.ref sl)) Q E s:=by
 have htake:sizeOk (.seq ((items.toList.drop (sIx items.size 0 lo)).take (sIx items.size items.size hi - sIx items.size 0 lo)).toArray):=by
  show ((items.toList.drop (sIx items.size 0 lo)).take (sIx items.size items.size hi - sIx items.size 0 lo)).toArray.size≤sizeLine
  rw [List.size_toArray,List.length_take,List.length_drop,Array.length_toList]
  omega
 have hj:sIx items.size items.size hi≤items.size:=Zph _ _ (Nat.le_refl _) hi
 obtain ⟨os,hos,hcs,hds⟩:=id hs
 have hTs:s.TypeIs (.ref sl) "slice" := ⟨os,hos,hcs⟩
 unfold getItem
 try with_reducible refine wpAny_holding ?_
 first | refine wpAny_bind (wpAny_pure ?_) | skip
 refine wpAny_bind (wpAny_sequenceKey ht.typeIs (by decide) ?_)
 refine wpAny_bind (wpAny_callSpecial?_slot (name:=Str.ofString "__getitem__") ht.typeIs PyProof.Rows.slot_tuple_getitem
  (wpAny_call_entry PyProof.Rows.slot_tuple_getitem ht.typeIs entry_tuple_getitem ?_ (args_tuple_getitem _ _)))
 show wpAny _ _ (Builtin.Tuple.tupleItemsOf (.ref t) >>= _) _ _ s
 refine wpAny_bind (tupleItemsOf_ ht ?_)
 refine wpAny_bind (wpAny_typeOf hTs ?_)
 rw [if_pos (by decide)]
 refine wpAny_bind (Zc1 hs pl pu ?_)
 have hno:¬((((sIx items.size 0 lo:Nat):Int)==0&&(1:Int)==1&&(sIx items.size items.size hi - sIx items.size 0 lo)==items.size)=true):=by
  intro q
  rw [Bool.and_eq_true,Bool.and_eq_true] at q
  have q1:((sIx items.size 0 lo:Nat):Int)=0:=eq_of_beq q.1.1
  have q2:sIx items.size items.size hi - sIx items.size 0 lo=items.size:=eq_of_beq q.2
  exact hw ⟨by omega,by omega⟩
 show wpAny _ _ (if (((sIx items.size 0 lo:Nat):Int)==0&&(1:Int)==1&&(sIx items.size items.size hi - sIx items.size 0 lo)==items.size)=true then _ else _) _ _ s
 rw [if_neg hno,ZlD]
 first
  | exact wpAny_bind (m:=Builtin.Tuple.tupleExact _) (wpAny_newObj_type (wpAny_pure ⟨_,rfl,wpAny_pure h⟩) htake)
  | exact wpAny_bind (m:=Builtin.Tuple.tupleExact _) (wpAny_newObj_type (wpAny_bind (wpAny_pure (wpAny_pure ⟨_,rfl,wpAny_pure h⟩))) htake)
  | exact wpAny_bind (wpAny_bind (m:=Builtin.Tuple.tupleExact _) (wpAny_newObj_type (wpAny_pure (wpAny_pure ⟨_,rfl,wpAny_pure h⟩)) htake))
  | exact wpAny_bind (wpAny_bind (m:=Builtin.Tuple.tupleExact _) (wpAny_newObj_type (wpAny_pure ⟨_,rfl,wpAny_pure h⟩) htake))
end
end HT
namespace L2
open PySem PySem.Spec PyProof.Rows
abbrev TO:=St→Hp→(Option Int→Hp→Prop)→Prop
def PO(X:Cx)(e:Option Expr)(t:TO):Prop :=
 ∀(pins:List (Addr×Obj)) (s:Shared) (σ:St) (H:Hp) (Q:Option Int→Hp→Prop),Inv X pins σ H s→t σ H Q →
  wpAny (model X.prog X.w) X.A (evalPart e X.env) (fun u s'=>∃o H',Inv X pins σ H' s'∧IsPart u o∧Q o H') X.xe s
def ZhO:TO:=fun _ H Q=>Q none H
def ZnK(t:TE):TO:=fun σ H Q=>t σ H fun x H1=>∃i,x=.int i∧Q (some i) H1
section
variable{X:Cx}{e:Expr}{te:TE}{lo hi:Option Expr}{tl th:TO}{pos p2:Pos}
theorem ZnN:PO X none ZhO:=by
 intro pins s σ H Q I h
 rw [evalPart_none]
 exact wpAny_pure ⟨none,H,I,.none,h⟩
theorem ZnV(h:PE X e te):PO X (some e) (ZnK te):=by
 intro pins s σ H Q I hw
 rw [evalPart_some]
 refine thn (h pins s σ H _ I hw) fun u s1 ⟨x,H1,I1,r1,q1⟩=>?_
 obtain ⟨i,rfl,q⟩:=q1
 obtain ⟨t,rfl⟩:=r1
 exact ⟨some i,H1,I1,.int i t,q⟩
def SlR(X:Cx)(r:V→Option Int→Option Int→Hp→VK→Prop):Prop :=
 ∀(pins:List (Addr×Obj)) (s:Shared) (σ:St) (H:Hp) (x:V) (v vl vu:Value) (lo hi:Option Int) (sl:Addr) (Q:VK),Inv X pins σ H s→RelV x v→s.heap.IsSliceOf sl vl vu .none→IsPart vl lo→IsPart vu hi→r x lo hi H Q →
  ∃T id,typeLookup (.type T) "__getitem__"=pure (some (.builtin id))∧s.TypeIs v T∧wpAny (model X.prog X.w) X.A (getItem v (.ref sl)) (EP X pins σ Q) X.xe s
theorem SlR.or{r r':V→Option Int→Option Int→Hp→VK→Prop}(h:SlR X r)(h':SlR X r'):SlR X (fun x lo hi H Q=>r x lo hi H Q∨r' x lo hi H Q):=by
 intro pins s σ H x v vl vu lo hi sl Q I rx hs pl pu q
 rcases q with q | q
 ·exact h pins s σ H x v vl vu lo hi sl Q I rx hs pl pu q
 ·exact h' pins s σ H x v vl vu lo hi sl Q I rx hs pl pu q
def tSl(r:V→Option Int→Option Int→Hp→VK→Prop)(te:TE)(tl th:TO):TE:=fun σ H Q=>te σ H fun x H1=>tl σ H1 fun l H2=>th σ H2 fun u H3=>r x l u H3 Q
theorem Zig{r:V→Option Int→Option Int→Hp→VK→Prop}(hr:SlR X r)(he:PE X e te)(hl:PO X lo tl)(hu:PO X hi th):PE X (.Subscript e (.Slice lo hi none p2) pos) (tSl r te tl th):=by
 intro pins s σ H Q I h
 refine Subscript_ (thn (he pins s σ H _ I h) fun v s1 ⟨x,H1,I1,r1,q1⟩=>?_)
 refine wpAny_Slice (thn (hl pins s1 σ H1 _ I1 q1) fun vl s2 ⟨l,H2,I2,pl,q2⟩=>thn (hu pins s2 σ H2 _ I2 q2) fun vu s3 ⟨u,H3,I3,pu,q3⟩=>?_)
 rw [evalPart_none]
 refine wpAny_pure ?_
 have I4:Inv X pins σ H3 { s3 with heap:=s3.heap.push { cls:=.type "slice", data:=.fields #[vl,vu,.none] } }:=I3.kept (t':=s3.toks) fun b ob q=>Heap.get?_push_of_some _ q
 obtain ⟨T,id,hT,ht,hg⟩:=hr pins { s3 with heap:=s3.heap.push { cls:=.type "slice", data:=.fields #[vl,vu,.none] } } σ H3 x v vl vu l u s3.heap.objs.size Q I4 r1 (Heap.IsSliceOf.new ..) pl pu q3
 show wpAny (model X.prog X.w) X.A (subscriptTail e (.Slice lo hi none p2) v (.ref s3.heap.objs.size)) (EP X pins σ Q) X.xe { s3 with heap:=s3.heap.push { cls:=.type "slice", data:=.fields #[vl,vu,.none] } }
 exact tail_any (ops:=[.ref s3.heap.objs.size,v]) ht hT hg (by with_unfolding_all rfl)
def cutV(xs:List V)(lo hi:Option Int):List V:=(xs.drop (HT.sIx xs.length 0 lo)).take (HT.sIx xs.length xs.length hi - HT.sIx xs.length 0 lo)
theorem Ze1(xs:List V)(lo hi:Option Int):(cutV xs lo hi).length≤xs.length:=by
 unfold cutV
 rw [List.length_take,List.length_drop]
 omega
def rSlT(K:W.Frag):V→Option Int→Option Int→Hp→VK→Prop:=fun x lo hi H Q=>∃a xs,x=.ref a∧SqT K H a xs ∧
 ¬(HT.sIx xs.length 0 lo=0∧HT.sIx xs.length xs.length hi=xs.length)∧∀p,H p=none→Q (.ref p) (upd H p (.tup (cutV xs lo hi)))
theorem ZoR:SlR X (rSlT X.K):=by
 intro pins s σ H x v vl vu lo hi sl Q I rx hs pl pu h
 obtain ⟨a,xs,rfl,hx,hw,q⟩:=h
 cases rx
 obtain ⟨its,r,ht,hz⟩:=I.tuple hx
 have hlen:its.toArray.size=xs.length:=by rw [List.size_toArray];exact r.length.symm
 refine ⟨"tuple", _,PyProof.Rows.slot_tuple_getitem.lookup,ht.typeIs,?_⟩
 refine HT.ZeH ht hs pl pu (by rw [hlen];exact hw) ?_ (by rw [hlen];exact hz)
 rw [hlen]
 refine ⟨.ref s.heap.objs.size,_,I.laid (t':=s.toks) (o:=.tup (cutV xs lo hi)) (fun b ob q=>Heap.get?_push_of_some _ q) (Nat.le_refl _) ?_,rfl,q _ (I.hok.fresh (Nat.le_refl _))⟩
 exact ⟨Nat.le_trans (Ze1 xs lo hi) hz,_,(r.drop (HT.sIx xs.length 0 lo)).take (HT.sIx xs.length xs.length hi - HT.sIx xs.length 0 lo),IsTup.new _ _⟩
def Zqp(K:W.Frag):R2:=fun x y H Q=>∃a b xs ys,x=.ref a∧y=.ref b∧SqT K H a xs∧SqT K H b ys∧xs≠[]∧xs.length+ys.length≤sizeLine ∧
 (ys=[]→Q (.ref a) H)∧(ys≠[]→∀p,H p=none→Q (.ref p) (upd H p (.tup (xs++ys))))
theorem Vals.nil_iff{xs:List V}{us:List Value}(r:Vals xs us):us=[]↔xs=[]:=by
 cases r with
 | nil=>simp
 | cons _ _=>simp
theorem ZnC:OpR X (binaryOp .Add) (Zqp X.K):=by
 intro pins s σ H x y v u Q I rx ry h
 obtain ⟨a,b,xs,ys,rfl,rfl,ha,hb,hx,hz,q1,q2⟩:=h
 cases rx
 cases ry
 obtain ⟨its,r1,p1,_⟩:=I.tuple ha
 obtain ⟨its2,r2,p2,_⟩:=I.tuple hb
 refine HT.ZnO p1 p2 (fun z=>hx (r1.nil_iff.mp z)) (fun z=>⟨.ref a,H,I,rfl,q1 (r2.nil_iff.mp z)⟩) (fun z=>?_) (by rw [←r1.length,←r2.length];exact hz)
 refine ⟨.ref s.heap.objs.size,_,I.laid (t':=s.toks) (o:=.tup (xs++ys)) (fun b ob q=>Heap.get?_push_of_some _ q) (Nat.le_refl _) ?_,rfl,q2 (fun w=>z (r2.nil_iff.mpr w)) _ (I.hok.fresh (Nat.le_refl _))⟩
 exact ⟨by rw [List.length_append];exact hz,_,r1.append r2,IsTup.new _ _⟩
end
def ixN(n:Nat)(i:Int):Option Nat:=if 0≤i then (if i<n then some i.toNat else none) else if -(n:Int)≤i then some (i+n).toNat else none
def atI{α:Type}(xs:List α)(i:Int):Option α:=(ixN xs.length i).bind fun j=>xs[j]?
theorem ZmU{n:Nat}{i:Int}{j:Nat}(h:ixN n i=some j):seqIndex? i n=some j∧j<n∧-(n:Int)≤i∧i<n:=by
 unfold ixN at h
 by_cases h0:0≤i
 ·rw [if_pos h0] at h
  by_cases h1:i<n
  ·rw [if_pos h1] at h
   have e:i.toNat=j:=Option.some.inj h
   exact ⟨by rw [seqIndex_of h0 h1,e],by omega,by omega,h1⟩
  ·rw [if_neg h1] at h;cases h
 ·rw [if_neg h0] at h
  by_cases h1:-(n:Int)≤i
  ·rw [if_pos h1] at h
   have e:(i+n).toNat=j:=Option.some.inj h
   exact ⟨by rw [seqIndex_neg (by omega) h1,e],by omega,h1,by omega⟩
  ·rw [if_neg h1] at h;cases h
theorem ZjW{α:Type}{xs:List α}{i:Int}{v:α}(h:atI xs i=some v):∃j,seqIndex? i xs.length=some j∧xs[j]?=some v∧j<xs.length∧-(xs.length:Int)≤i∧i<xs.length:=by
 unfold atI at h
 cases e:ixN xs.length i with
 | none=>rw [e] at h;cases h
 | some j =>
  rw [e] at h
  obtain ⟨h1,h2,h3,h4⟩:=ZmU e
  exact ⟨j,h1,h,h2,h3,h4⟩
def Zks(b:Expr):Prop:=∀o i,subscripted b false o i=operate [o,i] (getItem o i)
def IxR(X:Cx)(r:R2):Prop :=
 ∀(value slice:Expr) (pins:List (Addr×Obj)) (s:Shared) (σ:St) (H:Hp) (x y:V) (v u:Value) (Q:VK),Inv X pins σ H s→RelV x v→RelV y u→r x y H Q →
  subscripted slice false v u=operate [v,u] (getItem v u)→wpAny (model X.prog X.w) X.A (subscriptTail value slice v u) (EP X pins σ Q) X.xe s
def MtR(X:Cx)(id:String)(r:V→List V→Hp→VK→Prop):Prop :=
 ∀(pins:List (Addr×Obj)) (s:Shared) (σ:St) (H:Hp) (x:V) (xs:List V) (v:Value) (us:List Value) (Q:VK),Inv X pins σ H s→RelV x v→Vals xs us→r x xs H Q →
  wpAny (model X.prog X.w) X.A (call (.builtin id) (v::us)) (EP X pins σ Q) X.xe s
section
variable{X:Cx}{a b:Expr}{ta tb:TE}{pos:Pos}
theorem IxR.or{r r':R2}(h:IxR X r)(h':IxR X r'):IxR X (fun x y H Q=>r x y H Q∨r' x y H Q):=by
 intro value slice pins s σ H x y v u Q I rx ry q hs
 rcases q with q | q
 ·exact h value slice pins s σ H x y v u Q I rx ry q hs
 ·exact h' value slice pins s σ H x y v u Q I rx ry q hs
theorem Zpl{r:R2}(hr:IxR X r)(ha:PE X a ta)(hb:PE X b tb)(hs:Zks b):PE X (.Subscript a b pos) (tOp r ta tb):=by
 intro pins s σ H Q I h
 exact Subscript_ (binT ha hb I h fun v u s2 x y H2 I2 rx ry q=>hr a b pins s2 σ H2 x y v u Q I2 rx ry q (hs _ _))
def rIxL(K:W.Frag):R2:=fun x y H Q=>∃p xs i v,x=.ref p∧y=.int i∧SqL K H p xs∧atI xs i=some v∧Q v H
def rIxT(K:W.Frag):R2:=fun x y H Q=>∃p xs i v,x=.ref p∧y=.int i∧SqT K H p xs∧atI xs i=some v∧Q v H
theorem ZjP:IxR X (rIxL X.K):=by
 intro value slice pins s σ H x y v u Q I rx ry h hs
 obtain ⟨p,xs,i,z,rfl,rfl,hq,he,q⟩:=h
 cases rx
 obtain ⟨t,rfl⟩:=ry
 obtain ⟨its,r,pl,hz⟩:=I.list hq
 obtain ⟨j,h1,h2,h3,h4,h5⟩:=ZjW he
 obtain ⟨w,ew,rw'⟩:=r.get h2
 have hl:=r.length
 have hn:=ZiO
 have fin:EP X pins σ Q w s:=⟨z,H,I,rw',q⟩
 by_cases h0:0≤i
 ·have hj:i.toNat=j:=by
   rw [seqIndex_of h0 h5] at h1
   exact Option.some.inj h1
  exact item_listR pl.isList h0 (by omega) (by rw [hj];simpa using ew) fin hs
 ·have hj:(i+(its.toArray.size:Int)).toNat=j:=by
   rw [seqIndex_neg (by omega) h4] at h1
   rw [List.size_toArray,←hl]
   exact Option.some.inj h1
  exact subscriptTail_builtinR (x:=w) pl.isList.typeIs slot_list_getitem.lookup
   (wpAny_getItem_list_neg (Q:=fun r s'=>r=w∧EP X pins σ Q r s') pl.isList (by omega) (by rw [List.size_toArray]<;>omega) (by omega) (by rw [hj];simpa using ew) ⟨rfl,fin⟩) hs
theorem Zmg:IxR X (rIxT X.K):=by
 intro value slice pins s σ H x y v u Q I rx ry h hs
 obtain ⟨p,xs,i,z,rfl,rfl,hq,he,q⟩:=h
 cases rx
 obtain ⟨t,rfl⟩:=ry
 obtain ⟨its,r,pl,hz⟩:=I.tuple hq
 obtain ⟨j,h1,h2,h3,h4,h5⟩:=ZjW he
 obtain ⟨w,ew,rw'⟩:=r.get h2
 have hl:=r.length
 have hn:=ZiO
 have fin:EP X pins σ Q w s:=⟨z,H,I,rw',q⟩
 exact subscriptTail_builtinR (x:=w) pl.typeIs slot_tuple_getitem.lookup
  (getItem_tuple (j:=j) (Q:=fun r s'=>r=w∧EP X pins σ Q r s') pl (by omega) (by omega) (by rw [List.size_toArray,←hl];exact h1) (by simpa using ew) ⟨rfl,fin⟩) hs
theorem Zg5(lo hi:Option Int)(n:Nat):(sliceBounds lo hi none n).1=((HT.sIx n 0 lo:Nat):Int)∧(sliceBounds lo hi none n).2.1=((HT.sIx n n hi:Nat):Int)∧(sliceBounds lo hi none n).2.2=1:=by
 refine ⟨?_,?_,rfl⟩
 ·cases lo with
  | none=>simp [sliceBounds,HT.sIx]
  | some i =>
   simp only [sliceBounds,HT.sIx,Option.getD_none,show (1:Int)>0 by decide,if_true]
   by_cases h:i<0
   ·simp only [h,if_true]<;>omega
   ·simp only [h,if_false]<;>omega
 ·cases hi with
  | none=>simp [sliceBounds,HT.sIx]
  | some i =>
   simp only [sliceBounds,HT.sIx,Option.getD_none,show (1:Int)>0 by decide,if_true]
   by_cases h:i<0
   ·simp only [h,if_true]<;>omega
   ·simp only [h,if_false]<;>omega
theorem ZgS(its:List Value)(lo hi:Option Int):slicePick its.toArray lo hi none=((its.drop (HT.sIx its.length 0 lo)).take (HT.sIx its.length its.length hi - HT.sIx its.length 0 lo)).toArray:=by
 obtain ⟨h1,h2,h3⟩:=Zg5 lo hi its.toArray.size
 unfold slicePick
 rw [h1,h2,h3]
 simp only [sliceRange_one,pick_run,List.size_toArray]<;>rfl
def rSlL(K:W.Frag):V→Option Int→Option Int→Hp→VK→Prop:=fun x lo hi H Q=>∃a xs,x=.ref a∧SqL K H a xs∧∀p,H p=none→Q (.ref p) (upd H p (.lst (cutV xs lo hi)))
theorem Zod:SlR X (rSlL X.K):=by
 intro pins s σ H x v vl vu lo hi sl Q I rx hs pl pu h
 obtain ⟨a,xs,rfl,hx,q⟩:=h
 cases rx
 obtain ⟨its,r,ht,hz⟩:=I.list hx
 have hlen:=r.length
 refine ⟨"list", _,slot_list_getitem.lookup,ht.isList.typeIs,?_⟩
 refine wpAny_getItem_list_slice ht.isList hs pl pu .none (by simp) ?_ (by rw [List.size_toArray]<;>omega)
 rw [ZgS,←hlen]
 refine ⟨.ref s.heap.objs.size,_,I.laid (t':=s.toks) (o:=.lst (cutV xs lo hi)) (fun b ob q=>Heap.get?_push_of_some _ q) (Nat.le_refl _) ?_,rfl,q _ (I.hok.fresh (Nat.le_refl _))⟩
 exact ⟨Nat.le_trans (Ze1 xs lo hi) hz,_,0,(r.drop (HT.sIx xs.length 0 lo)).take (HT.sIx xs.length xs.length hi - HT.sIx xs.length 0 lo),Heap.get?_push_size _ rfl⟩
theorem Zat:ZdV X (.builtin "len") (fun xs H Q=>∃p ys,xs=[.ref p]∧(SqL X.K H p ys∨SqT X.K H p ys)∧Q (.int ys.length) H):=by
 intro pins s σ H xs us Q I r h
 obtain ⟨p,ys,rfl,hq,q⟩:=h
 obtain ⟨u,rfl,rx⟩:=vals1 r
 cases rx
 have hn:=ZiO
 rcases hq with hq | hq
 ·obtain ⟨its,r',pl,hz⟩:=I.list hq
  have hlen:=r'.length
  exact Calls.call_len_list pl.isList (by simp only [List.size_toArray]<;>omega) ⟨.int ys.length,H,I.tok _,⟨s.toks+1,by rw [List.size_toArray,hlen]⟩,q⟩
 ·obtain ⟨its,r',pl,hz⟩:=I.tuple hq
  have hlen:=r'.length
  exact len_tuple pl (by simp only [List.size_toArray]<;>omega) ⟨.int ys.length,H,I.tok _,⟨s.toks+1,by rw [List.size_toArray,hlen]⟩,q⟩
theorem ZbO:ZdV X (.type "list") (fun xs H Q=>∃p ys,xs=[.ref p]∧(SqL X.K H p ys∨SqT X.K H p ys)∧∀l,H l=none→Q (.ref l) (upd H l (.lst ys))):=by
 intro pins s σ H xs us Q I r h
 obtain ⟨p,ys,rfl,hq,q⟩:=h
 obtain ⟨u,rfl,rx⟩:=vals1 r
 cases rx
 have fin:∀(its:List Value),Vals ys its→ys.length≤sizeLine→∀(h':Heap) (c':Nat),(∀b o',s.heap.get? b=some o'→h'.get? b=some o') →
   h'.get? s.heap.objs.size=some { cls:=.type "list", dict:=none,data:=.seq its.toArray c',slots:=#[] }→EP X pins σ Q (.ref s.heap.objs.size) { s with heap:=h' }:=fun its r' hz h' c' kp e =>
  ⟨.ref s.heap.objs.size,_,I.laid (t':=s.toks) kp (Nat.le_refl _) (show Zcd X.prog X.w _ h' _ (.lst ys) from ⟨hz,its,c',r',e⟩),rfl,q _ (I.hok.fresh (Nat.le_refl _))⟩
 rcases hq with hq | hq
 ·obtain ⟨its,r',pl,hz⟩:=I.list hq
  have hlen:=r'.length
  obtain ⟨o,ho,hc,n,hd⟩:=pl.isList
  exact call_list_seq p (.inl rfl) ho hc hd (fun h' c' kp e=>fin its r' hz h' c' kp e) (by simp only [List.size_toArray]<;>omega)
 ·obtain ⟨its,r',pl,hz⟩:=I.tuple hq
  have hlen:=r'.length
  obtain ⟨o,ho,hc,n,hd⟩:=pl
  exact call_list_seq p (.inr rfl) ho hc hd (fun h' c' kp e=>fin its r' hz h' c' kp e) (by simp only [List.size_toArray]<;>omega)
theorem ZbV:ZdV X (.type "tuple") (fun xs H Q=>∃p ys,xs=[.ref p]∧((SqL X.K H p ys∧∀l,H l=none→Q (.ref l) (upd H l (.tup ys)))∨(SqT X.K H p ys∧Q (.ref p) H))):=by
 intro pins s σ H xs us Q I r h
 obtain ⟨p,ys,rfl,h⟩:=h
 obtain ⟨u,rfl,rx⟩:=vals1 r
 cases rx
 rcases h with ⟨hq,q⟩ | ⟨hq,q⟩
 ·obtain ⟨its,r',pl,hz⟩:=I.list hq
  have hlen:=r'.length
  refine call_tuple_list pl.isList (fun h' kp=>?_) (by simp only [List.size_toArray]<;>omega)
  have I1:Inv X pins σ H { s with heap:=h' }:=I.kept (t':=s.toks) kp
  have I2:Inv X pins σ (upd H h'.objs.size (.tup ys)) { s with heap:=h'.push { cls:=.type "tuple", data:=.seq its.toArray } } :=
   I1.laid (t':=s.toks) (fun b o e=>Heap.get?_push_of_some _ e) (Nat.le_refl _) (show Zcd X.prog X.w _ _ _ (.tup ys) from ⟨hz,its,r',IsTup.new _ _⟩)
  exact ⟨.ref h'.objs.size,_,I2,rfl,q _ (I1.hok.fresh (Nat.le_refl _))⟩
 ·obtain ⟨its,r',pl,hz⟩:=I.tuple hq
  exact call_tuple_same pl ⟨.ref p,H,I,rfl,q⟩
def tyV(K:W.Frag)(T:String)(x:V)(H:Hp):Prop:=match x with
 | .str _=>T = "str"
 | .int _=>T = "int"
 | .ref p=>(T = "list"∧∃xs,SqL K H p xs)∨(T = "tuple"∧∃o,K.lookup p=some o∧o.cls=.type "tuple"∧o.dict=none) ∨
   (T = "dict"∧((∃kvs,H p=some (.dK kvs))∨∃kvs,H p=some (.dT kvs)))∨(T = "set"∧∃S n,H p=some (.set S n))
 | _=>False
theorem ZoY{pins:List (Addr×Obj)}{σ:St}{H:Hp}{s:Shared}{T:String}{x:V}{v:Value}(I:Inv X pins σ H s)(r:RelV x v)(ty:tyV X.K T x H) :
  s.TypeIs v T∧∀a,v=.ref a→∃ob,s.heap.get? a=some ob∧ob.dict=none:=by
 cases x with
 | str z =>
  obtain ⟨t,rfl⟩:=r
  cases (show T = "str" from ty)
  exact ⟨typeIs_str s z t,fun _ e=>nomatch e⟩
 | int i =>
  obtain ⟨t,rfl⟩:=r
  cases (show T = "int" from ty)
  exact ⟨typeIs_int s i t,fun _ e=>nomatch e⟩
 | ref p =>
  cases r
  rcases ty with ⟨rfl,xs,hq⟩ | ⟨rfl,o,hk,hc,hd⟩ | ⟨rfl,hk⟩ | ⟨rfl,S,n,hk⟩
  ·obtain ⟨its,_,pl,_⟩:=I.list hq
   refine ⟨pl.isList.typeIs,fun a e=>?_⟩
   cases e
   obtain ⟨o,n,e,c,hd,_⟩:=pl
   exact ⟨o,e,hd⟩
  ·refine ⟨⟨o,I.kIn p o hk,hc⟩,fun a e=>?_⟩
   cases e
   exact ⟨o,I.kIn _ o hk,hd⟩
  ·have z:∃o,s.heap.get? p=some o∧o.ExactDict:=by
    rcases hk with ⟨kvs,hk⟩ | ⟨kvs,hk⟩
    ·obtain ⟨_,_,_,_,o,_,_,e,ex,_⟩:=I.hok p _ hk
     exact ⟨o,e,ex⟩
    ·obtain ⟨_,_,_,_,o,_,_,e,ex,_⟩:=I.hok p _ hk
     exact ⟨o,e,ex⟩
   obtain ⟨o,e,ex⟩:=z
   refine ⟨⟨o,e,ex.1⟩,fun a e2=>?_⟩
   cases e2
   exact ⟨o,e,ex.2.1⟩
  ·obtain ⟨o,_,_,_,e,ex,_⟩:=I.hok p _ hk
   refine ⟨⟨o,e,ex.1⟩,fun a e2=>?_⟩
   cases e2
   exact ⟨o,e,ex.2.1⟩
 | _=>exact False.elim ty
def tBM(K:W.Frag)(T:String)(r:V→List V→Hp→VK→Prop)(to:TE)(t:TA):TE:=fun σ H Q=>to σ H fun x H1=>tyV K T x H1∧t σ H1 fun xs H2=>r x xs H2 Q
variable{o e:Expr}{es:List Expr}{to:TE}{t:TA}{name:Str}{apos cpos:Pos}{T id:String}{r:V→List V→Hp→VK→Prop}
theorem Zlu(pa:PlainAttrs T)(slot:Slot T name id)(hty:typeOf (.builtin id)=pure (.type "method_descriptor"))(hm:MtR X id r)(ho:PE X o to)(ha:PA X (e::es) t)
  (hbase:attributeBase o name X.env (eval o X.env)=eval o X.env:=by rfl)
  (hfew:((backTo cpos (starEach (e::es) X.env)).all (fun x=>!x.1)&&(backToKw cpos (keywordEach [] X.env)).all (fun x=>x.1.isSome)
   && decide ((e::es).length+([]:List Keyword).length+(if ([]:List Keyword).isEmpty then 0 else 1)<30))=true:=by rfl)
  (hline:(apos.endLine==cpos.line)=true:=by rfl) (hs:starEach (e::es) X.env=(false,eval e X.env)::starEach es X.env:=by rfl) (hplain:(backTo cpos (starEach es X.env)).any (·.1)=false:=by rfl) :
  PE X (.Call (.Attribute o name apos) (e::es) [] cpos) (tBM X.K T r to t):=by
 intro pins s σ H Q I h
 refine wpAny_Call_method_late hbase hfew hline rfl (thn (ho pins s σ H _ I h) fun v s1 ⟨x,H1,I1,r1,ty,q1⟩=>?_)
 obtain ⟨h1,h2⟩:=ZoY I1 r1 ty
 refine ⟨T,id,pa,slot,hty,h1,h2,?_⟩
 have hA:=ha cpos pins s1 σ H1 _ I1 q1
 rw [hs] at hA ⊢
 refine Calls.callWith_builtin (by show (false||(backTo cpos (starEach es X.env)).any (·.1))=false;rw [hplain]<;>rfl) (Calls.evalArgs_plain ?_)
 exact thn hA fun us s2 ⟨vs,H2,I2,r2,q2⟩=>hm pins s2 σ H2 x vs v us Q I2 r1 r2 q2
end
def MtM(X:Cx)(id:String)(r:V→List V→Hp→VK→Prop):Prop :=
 ∀(pins:List (Addr×Obj)) (s:Shared) (σ:St) (H:Hp) (x:V) (xs:List V) (v:Value) (us:List Value) (Q:VK),Inv X pins σ H s→RelV x v→Vals xs us→r x xs H Q →
  wpAny (model X.prog X.w) X.A (call (.builtin id) (v::us)) (EP X pins σ Q) X.xe s
theorem Vals.one:∀{x:V} {us:List Value},Vals [x] us→∃u,us=[u]∧RelV x u
 | _,_,.cons r .nil=>⟨_,rfl,r⟩
section
variable{X:Cx}{pins:List (Addr×Obj)}{σ:St}{H:Hp}{s:Shared}{l b:Addr}{xs ys zs:List V}
theorem Inv.lset{its its':List Value}{n:Nat}{f:Array Value→Array Value}{t':Nat}(I:Inv X pins σ H s)(hH:H l=some (.lst xs))
  (e:s.heap.get? l=some { cls:=.type "list", data:=.seq its.toArray n }) (hf:f its.toArray=its'.toArray) (hv:Vals ys its') (hz:ys.length≤sizeLine) :
  Inv X pins σ (upd H l (.lst ys)) { s with heap:=s.heap.update l (Obj.mapSeq f),toks:=t' }:=by
 have q:=PySem.IsL.update e f
 rw [hf] at q
 refine I.write (x:=l) (e:=l) (by rw [hH];exact trivial) (.inl rfl) (fun b' u hb hu=>(Heap.get?_update_other s.heap (Obj.mapSeq f) (Ne.symm hb)).trans hu) ⟨_,q⟩ ?_
 exact ⟨hz,its',_,hv,q⟩
theorem Inv.lnew{its:List Value}{t':Nat}(I:Inv X pins σ H s)(hv:Vals ys its)(hz:ys.length≤sizeLine) :
  Inv X pins σ (upd H s.heap.objs.size (.lst ys)) { s with heap:=s.heap.push { cls:=.type "list", data:=.seq its.toArray },toks:=t' } :=
 I.laid (fun _ _ q=>Heap.get?_push_of_some _ q) (Nat.le_refl _) ⟨hz,its,0,hv,Heap.get?_push_size _ rfl⟩
theorem Inv.fresh(I:Inv X pins σ H s):H s.heap.objs.size=none:=I.hok.fresh (Nat.le_refl _)
theorem Inv.lstM(I:Inv X pins σ H s)(hH:H l=some (.lst xs)):xs.length≤sizeLine∧∃(its:List Value) (n:Nat),Vals xs its∧xs.length=its.length∧s.heap.get? l=some { cls:=.type "list", data:=.seq its.toArray n }:=by
 obtain ⟨z,its,n,r,e⟩:=I.hok l _ hH
 exact ⟨z,its,n,r,r.length,e⟩
end
section
variable{X:Cx}
def Zdo:V→List V→Hp→VK→Prop:=fun x vs H Q=>∃l xs y,x=.ref l∧vs=[y]∧H l=some (.lst xs)∧xs.length<sizeLine∧Q .non (upd H l (.lst (xs++[y])))
theorem Zfx:MtM X "list.append" Zdo:=by
 intro pins s σ H x vs v us Q I rx rv h
 obtain ⟨l,xs,y,rfl,rfl,hH,hz,q⟩:=h
 cases rx
 obtain ⟨u,rfl,ru⟩:=rv.one
 obtain ⟨z,its,n,r,hl,e⟩:=I.lstM hH
 refine call_meets F.slot_list_append ⟨_,e,rfl⟩ F.entry_list_append (F.args_list_append_2 _ _) (PySem.list_append l its.toArray n u (by rw [List.size_toArray];omega)) ⟨e,?_⟩
 refine ⟨.non,_,I.lset (its':=its++[u]) hH e (by simp) (r.append (.cons ru .nil)) ?_,rfl,q⟩
 rw [List.length_append,List.length_singleton]
 omega
end
section
variable{prog:Program}{w:World}{A:Around}{E:Value→Shared→Prop}{s:Shared}
set_option maxRecDepth 100000 in
end
end L2
namespace Att
open PySem PySem.W PySem.Calls PyProof.Rows
theorem Zfq{P:Params}{h:Heap}:∀(ns:List Int) (vs:List Value),WellAll P h vs (ns.map WData.int)→IntsAre vs ns:=by
 intro ns
 induction ns with
 | nil =>
  intro vs w
  rw [List.map_nil] at w
  cases w
  exact .nil
 | cons n ns ih =>
  intro vs w
  rw [List.map_cons] at w
  cases w with
  | cons a b =>
   cases a
   exact .cons _ _ (ih _ b)
theorem Zjm{l:OpenLaw}{n:Nat}(hn:l.most=some n){P:Params}{h:Heap}{args:List WData}{vals:List Value}
  (hpre:l.row.toRowW.claim.pre args=true) (hwl:WellAll P h vals args) :
  ∃a vs ns,vals=[Value.ref a]∧args=[WData.list (ns.map WData.int)]∧h.get? a=some { cls:=.type "list", data:=.seq vs.toArray }∧IntsAre vs ns∧ns.length≤n:=by
 have hsh:WShape.hasAll [] args [.list .int]=true:=(pre_splitW hpre).1
 have hc:l.pre.holds [] { args:=args }=true:=(pre_splitW hpre).2
 obtain ⟨d,r,rfl,h1,h2⟩:=hasAllW_cons hsh
 obtain rfl:=hasAllW_nil h2
 obtain ⟨xs,rfl,h3⟩:=hasW_list h1
 obtain ⟨ns,rfl⟩:=items_int h3
 have hlen:ns.length≤n:=by
  unfold OpenLaw.pre at hc
  have h4:(WTm.not (.lt (.lit (.int (n:Int))) (.len (.arg 0)))).holds [] { args:=[.list (ns.map .int)] }=true:=by
   have h4:=(holds_andW hc).1
   rw [hn] at h4
   exact h4
  have h5:=condW_of h4 (w_not (w_lt w_lit (w_len_list (w_arg rfl))))
  rw [List.length_map] at h5
  refine Nat.le_of_not_lt fun q=>?_
  have q':(n:Int)<((ns.length:Nat):Int):=by omega
  first
   | (rw [decide_eq_true q'] at h5;exact absurd h5 (by decide))
   | (simp at h5;omega)
 cases hwl with
 | cons w1 w2 =>
  cases w2
  cases w1 with
  | list ho hall=>exact ⟨_,_,ns,rfl,rfl,ho,Zfq ns _ hall,hlen⟩
theorem Zkc(l:OpenLaw)(args:List WData):l.row.toRowW.claim.post args (.bool true) args=true :=
 postW_of (r:=l.row.toRowW) (X:=(true==true))
  (show WShape.has [] (.bool true) .bool=true by first | rfl | decide | simp [WShape.has,WShape.arms,WShape.armsAll])
  (show (WTm.eq .res (.lit (.bool true))).value [] { args:=args,res:=some (.bool true),after:=args }=some (.bool (true==true)) from w_eq_bool (w_res rfl) w_lit) rfl
theorem ZhY{l:OpenLaw}{n:Nat}{q:Program}{loose:List Str}{XP:(Str→Option Value)→Heap→Prop}{YP:World→Heap→Prop}{d:DefRec}
  (hn:l.most=some n) (hdf:d.params.defaults=[])
  (call:∀(w:World) (s₀ s₁:Shared) (mg mb:Str→Option Value) (fa:Addr) (o:Obj) (pm cd doc:Value) (a:Addr) (vs:List Value) (ns:List Int),
   Ground q loose [] XP w s₀ mg mb s₁.heap→YP w s₁.heap →
   s₁.heap.get? fa=some o→o.data=.func (docDef d.name d.params d.body d.scope pm cd doc)→s₁.heap.CodeRec cd d.name→mg d.name=some (.ref fa) →
   s₁.heap.get? a=some { cls:=.type "list", data:=.seq vs.toArray }→IntsAre vs ns→ns.length≤n→s₁.gens=#[] →
   codeAny (model l.prog w) callerA (.call (.ref fa) ⟨[.ref a],[]⟩) (fun r s'=>r=.ok (.ret (.bool true))∧OldK s₁.heap s'.heap∧s'.os=s₁.os∧AllBare s'.gens) s₁) :
  WalkO q loose XP YP l.row.toRowW d [] (fun f vs=>PySem.call f vs):=by
 intro w s₀ s₁ mg mb G Y fa o pm cd doc dV kV ho hd hcd hD hmg hg args vals as hpre hlay hrd hwl hlo
 obtain rfl:dV=.none:=Dflts.none hD hdf
 obtain rfl:kV=.none:=Dflts.noKw hD
 obtain ⟨a,vs,ns,rfl,rfl,hobj,hints,hlen⟩:=Zjm hn hpre hwl
 refine enter_call (codeAny_mono (call w s₀ s₁ mg mb fa o pm cd doc a vs ns G Y ho (fd_plain hd) hcd hmg hobj hints hlen hg) fun r s' hq=>?_)
 obtain ⟨rfl,h2,h3,h4⟩:=hq
 exact ⟨.inl ⟨.bool true,.bool true,[],rfl,fun _=>rfl,.bool true,Zkc l _,fun _=>⟨List.Pairwise.nil,fun _ hm=>(nomatch hm)⟩⟩,h2,h3,h4⟩
end Att
namespace L2
open PySem PySem.Spec PyProof.Rows
theorem Zg9:∀{vs:List Value} {ns:List Int},IntsAre vs ns→Vals (ns.map V.int) vs
 | _,_,.nil=>.nil
 | _,_,.cons n t h=>.cons ⟨t,rfl⟩ (Zg9 h)
def Only(H:Hp):Prop:=∀b,H b=none∨∃o xs,H b=some (.frz o (.lst xs))
theorem Zk6{P:Program}{w:World}{K:W.Frag}{mg mb:Str→Option Value}{CX:CXT}{k:Nat}{fa a:Addr}{fd:FuncData}{x:Str}{sp:Sp}{s₁:Shared}{vs:List Value}{ns:List Int}
  (KX:K.In s₁.heap) (hns:s₁.heap.Ns mainGlobals mg) (hb:s₁.heap.Ns builtinsNs mb) (hbb:∀x:Str,x ≠ "__name__"→mb x=bootBuiltins x) (hlim:s₁.heap.NoLimit) (hg:s₁.gens=#[])
  (ha:s₁.heap.get? a=some { cls:=.type "list", data:=.seq vs.toArray }) (hi:IntsAre vs ns) (hl:ns.length≤sizeLine) (hr:Room k callerA)
  (F:∀base:Heap,K.In base→base.Ns mainGlobals mg→FnOk P w K mg base CX k fa fd [x] sp) (hbind:∀(s:Shared) (u:Value),BindsTo s fd ⟨[u],[]⟩ [(x,u)])
  (hsp:∀H:Hp,Only H→SqL K H a (ns.map V.int)→sp [.ref a] H (fun v _=>v=.bl true) fun _ _ _=>False)
  (hCX:∀H e s',CX [] H s₁ (fun _ _ _=>False) e s'→False) :
  codeAny (model P w) callerA (.call (.ref fa) ⟨[.ref a],[]⟩) (fun r s'=>r=.ok (.ret (.bool true))∧OldK s₁.heap s'.heap∧s'.os=s₁.os∧AllBare s'.gens) s₁:=by
 have rv:=Zg9 hi
 have lenV:=hi.length
 have core:∀H:Hp,Only H→SqL K H a (ns.map V.int)→HOk P w H s₁.heap→(∀b,H b≠none→b=a)→(H a≠none→K.lookup a=none) →
   codeAny (model P w) callerA (.call (.ref fa) ⟨[.ref a],[]⟩) (fun r s'=>r=.ok (.ret (.bool true))∧OldK s₁.heap s'.heap∧s'.os=s₁.os∧AllBare s'.gens) s₁:=by
  intro H hO hS hok hA hK
  have base_of:∀{b:Addr} {o:Obj},s₁.heap.get? b=some o→H b=none→(hidT s₁.heap H).get? b=some o:=fun e n=>ZlA e n
  have noA:∀{b:Addr} {o:Obj} {es:Array DictEntry} {ep:Nat},s₁.heap.get? b=some o→o.data=.dict es ep→H b=none:=fun {b o es ep} e d=>by
   cases q:H b with
   | none=>rfl
   | some u =>
    have e':b=a:=hA b (by rw [q];simp)
    subst e'
    rw [ha] at e;cases e
    have d':Data.seq vs.toArray _=Data.dict es ep:=d
    cases d'
  have nsK:∀{b:Addr} {m:Str→Option Value},s₁.heap.Ns b m→(hidT s₁.heap H).Ns b m:=fun {b m} ⟨o,es,ep,e,d,r⟩=>⟨o,es,ep,base_of e (noA e d),d,r⟩
  have hKb:K.In (hidT s₁.heap H):=fun b o e=>base_of (KX b o e) (by
   cases q:H b with
   | none=>rfl
   | some u =>
    have e':b=a:=hA b (by rw [q];simp)
    subst e'
    rw [hK (by rw [q];simp)] at e;cases e)
  have hM:Mod K mg (hidT s₁.heap H):=⟨hKb,nsK hns,⟨mb,nsK hb,hbb⟩,let ⟨mc,h1,h2⟩:=hlim;⟨mc,nsK h1,h2⟩⟩
  have e0:Env0 P w K mg (hidT s₁.heap H) callerA [] s₁ H:=⟨rfl,hM,fun b o e=>ZnX e,Nat.le_of_eq (Zjw _ _),trivial,fun b hb=>absurd (show b∈([]:List Addr) from hb) (by simp),hok,.of_eq hg⟩
  refine codeAny_mono ((F _ hKb (nsK hns)).run callerA [] s₁ H ⟨[.ref a],[]⟩ [.ref a] [.ref a] _ _ hr e0 (hbind s₁ (.ref a)) (.cons rfl .nil) (hsp H hO hS)) fun r s' h=>?_
  cases r with
  | error e=>exact (hCX H e s' h).elim
  | ok fl =>
   cases fl with
   | next=>exact False.elim h
   | brk=>exact False.elim h
   | cont=>exact False.elim h
   | ret u =>
    obtain ⟨v,H',os,bare,un,hok',r',q⟩:=h
    have q':v=.bl true:=q
    subst q'
    obtain rfl:u=Value.bool true:=r'
    refine ⟨rfl,OldK.of_keep fun b o e=>?_,os,bare⟩
    cases q:H b with
    | none=>exact un.keep b o e q (by intro z;exact absurd (show b∈([]:List Addr) from z) (by simp)) (by simp)
    | some u =>
     rcases hO b with z | ⟨ob,xs,z⟩
     ·rw [q] at z;cases z
     ·have z2:=un.frzs b ob _ z
      obtain ⟨e1,_⟩:=hok b _ z
      obtain ⟨e2,_⟩:=hok' b _ z2
      rw [e] at e1;cases e1
      exact e2
 cases hk:K.lookup a with
 | some o =>
  have e:=KX a o hk
  rw [ha] at e
  cases e
  refine core (fun _=>none) (fun _=>.inl rfl) (.inr ⟨_,vs.toArray,_,hk,rfl,rfl,rfl,by rw [List.size_toArray,lenV];exact hl,by simpa using rv⟩) (fun b u z=>by have z':(none:Option HO)=some u:=z;cases z') (fun b z=>absurd rfl z) fun z=>absurd rfl z
 | none =>
  refine core (fun b=>if b=a then some (.frz { cls:=.type "list", data:=.seq vs.toArray } (.lst (ns.map V.int))) else none) (fun b=>?_) (.inl (.inr ⟨{ cls:=.type "list", data:=.seq vs.toArray },if_pos rfl⟩)) (fun b u z=>?_) (fun b z=>?_) fun _=>hk
  ·by_cases hb:b=a
   ·exact .inr ⟨_,_,if_pos hb⟩
   ·exact .inl (if_neg hb)
  ·by_cases hb:b=a
   ·have z':=(if_pos hb).symm.trans z
    cases z'
    subst hb
    exact ⟨ha,by rw [List.length_map];exact hl,vs,_,rv,ha⟩
   ·have z':=(if_neg hb).symm.trans z
    cases z'
  ·by_cases hb:b=a
   ·exact hb
   ·exact absurd (if_neg hb) z
theorem Znd{l:W.OpenLaw}{n k:Nat}{q:Program}{loose:List Str}{XP:(Str→Option Value)→Heap→Prop}{YP:World→Heap→Prop}{d:DefRec}{K:Params→W.Frag}{CX:World→CXT}{sp:World→Sp}{x:Str}
  (hn:l.most=some n) (hn2:n≤sizeLine) (hdf:d.params.defaults=[]) (hr:Room k callerA)
  (hY:∀(w:World) (h:Heap),YP w h→(K w.params).In h)
  (F:∀(w:World) (mg:Str→Option Value) (fa:Addr) (h:Heap),(K w.params).In h→h.Ns mainGlobals mg→mg d.name=some (.ref fa) →
   ∃fd:FuncData,(∀(s:Shared) (u:Value),BindsTo s fd ⟨[u],[]⟩ [(x,u)]) ∧
    ∀base:Heap,(K w.params).In base→base.Ns mainGlobals mg→FnOk l.prog w (K w.params) mg base (CX w) k fa fd [x] (sp w))
  (hsp:∀(w:World) (H:Hp) (a:Addr) (ns:List Int),ns.length≤n→Only H→SqL (K w.params) H a (ns.map V.int)→sp w [.ref a] H (fun v _=>v=.bl true) fun _ _ _=>False)
  (hCX:∀(w:World) (H:Hp) (s:Shared) (e:Value) (s':Shared),CX w [] H s (fun _ _ _=>False) e s'→False) :
  W.WalkO q loose XP YP l.row.toRowW d [] (fun f vs=>PySem.call f vs):=by
 refine Att.ZhY hn hdf fun w s₀ s₁ mg mb fa o pm cd doc a vs ns G Y ho hd hcd hmg hobj hints hlen hg=>?_
 have KX:=hY w _ Y
 obtain ⟨fd,hb,hF⟩:=F w mg fa _ KX G.T.g hmg
 exact Zk6 KX G.T.g G.T.b G.T.builtins G.T.nolimit hg hobj hints (Nat.le_trans hlen hn2) hr hF hb (fun H hO hS=>hsp w H a ns hlen hO hS) fun H e s'=>hCX w H s₁ e s'
abbrev E0:XK:=fun _ _ _=>False
structure Fun(K:W.Frag)(x qual:Str)(st:Stmt)(f:Addr)(fd:FuncData):Prop where
 ex:∃(oc:Value) (od:Option Addr) (kV doc pm:Value) (an:Option Addr) (cdv ct:Value) (osl:Array (Option Value)),
  fd=W.fnOf x qual (ZdU st) (ZbS st) (Zaf st) .none kV doc pm an cdv ct∧K.lookup f=some ⟨oc,od,.func fd,osl⟩∧W.codeIn K cdv qual=true
 kp:W.keepIn K (.ref f)=true
section
variable{P:Program}{w:World}{K:W.Frag}{mg:Str→Option Value}{base:Heap}
theorem Fun.binds{x qual:Str}{st:Stmt}{f:Addr}{fd:FuncData}{ps:List Str}(F:Fun K x qual st f fd)
  (h:∀(kV doc pm:Value) (an:Option Addr) (cdv ct:Value) (us:List Value),us.length=ps.length→bindArgs (W.fnOf x qual (ZdU st) (ZbS st) (Zaf st) .none kV doc pm an cdv ct) ⟨us,[]⟩=pure (ps.zip us)):Binds K fd ps []:=by
 obtain ⟨oc,od,kV,doc,pm,an,cdv,ct,osl,rfl,lk,hcd⟩:=F.ex
 exact .all (h kV doc pm an cdv ct)
theorem Zc0{x qual:Str}{st:Stmt}{f:Addr}{oc:Value}{od an:Option Addr}{osl:Array (Option Value)}{kV doc pm cdv ct:Value}(l:K.lookup f=some ⟨oc,od,.func (W.fnOf x qual (ZdU st) (ZbS st) (Zaf st) .none kV doc pm an cdv ct),osl⟩)
  (c:W.codeIn K cdv qual=true) (k:W.keepIn K (.ref f)=true):Fun K x qual st f (W.fnOf x qual (ZdU st) (ZbS st) (Zaf st) .none kV doc pm an cdv ct):=⟨⟨oc,od,kV,doc,pm,an,cdv,ct,osl,rfl,l,c⟩,k⟩
end
theorem Zj7{n:Nat}(h:n≤1000):n<sizeLine:=Nat.lt_of_le_of_lt h (by decide)
def Same(H H':Hp):Prop:=∀b o,H b=some o→H' b=some o
theorem Same.refl(H:Hp):Same H H:=fun _ _ h=>h
theorem Same.trans{H H1 H2:Hp}(a:Same H H1)(b:Same H1 H2):Same H H2:=fun c o h=>b c o (a c o h)
theorem Same.free{H H':Hp}(e:Same H H'){l:Addr}(h:H' l=Option.none):H l=Option.none:=by
 cases q:H l with
 | none=>rfl
 | some o =>
  rw [e l o q] at h
  cases h
theorem Same.seq{K:W.Frag}{H H':Hp}{a:Addr}{xs:List V}(e:Same H H')(h:SqL K H a xs):SqL K H' a xs:=by
 rcases h with (h | ⟨o,h⟩) | h
 ·exact .inl (.inl (e _ _ h))
 ·exact .inl (.inr ⟨o,e _ _ h⟩)
 ·exact .inr h
end L2
set_option maxHeartbeats 4000000
namespace L2
open PySem PySem.Spec PyProof.Rows
section
variable{X:Cx}
theorem ZmZ:OpR X (binaryOp .Mult) (rI IntMulOk fun i j=>.int (i*j)):=opI fun _ _ _ _ _ _ _ hc q=>mul_int q hc
def Znr(_ j:Int):Prop:=j≠0∧j.natAbs.log2<9000
theorem ZlQ:OpR X (binaryOp .FloorDiv) (rI Znr fun i j=>.int (i.fdiv j)):=opI fun _ _ _ _ _ _ _ hc q=>floordiv_int hc.1 q (.inl (PyProof.noPylong_of_log2 hc.2))
theorem ZpG{n:String}{x:Str}{pos:Pos}(hg:Gl X x)(hm:X.mg x=none)(hv:bootBuiltins x=some (.type n))(hn:x ≠ "__name__" := by decide)(hd:(x==("__debug__" : Str))=false:=by decide):PE X (.Name x pos) (tC (.ty n)) :=
 ZnF hg hm hv rfl hn hd
end
theorem Zhq:bootBuiltins "abs"=some (.builtin "abs"):=by decide +kernel
theorem Zis:bootBuiltins "all"=some (.builtin "all"):=by decide +kernel
theorem Zas:bootBuiltins "isinstance"=some (.builtin "isinstance"):=by decide +kernel
theorem ZbB:bootBuiltins "len"=some (.builtin "len"):=by decide +kernel
theorem Zmn:bootBuiltins "max"=some (.builtin "max"):=by decide +kernel
theorem Zmo:bootBuiltins "int"=some (.type "int"):=by decide +kernel
theorem Zm3:bootBuiltins "bool"=some (.type "bool"):=by decide +kernel
theorem Zci:bootBuiltins "tuple"=some (.type "tuple"):=by decide +kernel
theorem ZdO:bootBuiltins "list"=some (.type "list"):=by decide +kernel
theorem Zfg:bootBuiltins "str"=some (.type "str"):=by decide +kernel
theorem Zlq(K:W.Frag)(t:Value):W.kitOne K t t=some true:=by
 unfold W.kitOne
 rw [if_pos (beq_self_eq_true t)]
theorem Zpd(K:W.Frag){T U:String}{b:Bool}(hne:(Value.type T==Value.type U)=false)(hm:W.kitMeta U=true)(h:(fastBuiltinMro T).map (·.contains (Value.type U))=some b):W.kitOne K (.type T) (.type U)=some b:=by
 unfold W.kitOne
 rw [if_neg (by rw [hne];exact Bool.false_ne_true)]
 show (if W.kitMeta U=true then _ else none)=_
 rw [if_pos hm]
 exact h
mutual
inductive DV(K:W.Frag)(H:Hp):V→PyData→Prop
 | non:DV K H .non .none
 | bl (b:Bool):DV K H (.bl b) (.bool b)
 | int (i:Int):DV K H (.int i) (.int i)
 | str (x:Str):DV K H (.str x) (.str x)
 | tup {a:Addr} {xs:List V} {ds:List PyData} (h:SqT K H a xs) (r:DVs K H xs ds):DV K H (.ref a) (.tuple ds)
 | lst {a:Addr} {xs:List V} {ds:List PyData} (h:SqL K H a xs) (r:DVs K H xs ds):DV K H (.ref a) (.list ds)
inductive DVs(K:W.Frag)(H:Hp):List V→List PyData→Prop
 | nil:DVs K H [] []
 | cons {x:V} {xs:List V} {d:PyData} {ds:List PyData} (h:DV K H x d) (r:DVs K H xs ds):DVs K H (x::xs) (d::ds)
end
section
variable{X:Cx}{pins:List (Addr×Obj)}{σ:St}{H:Hp}{s:Shared}
mutual
theorem DV.reads(I:Inv X pins σ H s):∀{x:V} {d:PyData} {u:Value},DV X.K H x d→RelV x u→∃as,Reads s.heap u d as
 | _,_,_,.non,r=>by cases r;exact ⟨_,.none⟩
 | _,_,_,.bl b,r=>by cases r;exact ⟨_,.bool b⟩
 | _,_,_,.int i,r=>by obtain ⟨t,rfl⟩:=r;exact ⟨_,.int i t⟩
 | _,_,_,.str i,r=>by obtain ⟨t,rfl⟩:=r;exact ⟨_,.str i t⟩
 | _,_,_,.tup h q,r=>by
  cases r
  obtain ⟨its,rv,⟨o,h1,h2,n,h3⟩,_⟩:=I.tuple h
  obtain ⟨as,ra⟩:=DVs.reads I q rv
  exact ⟨_,.tuple h1 h2 h3 (by simpa using ra)⟩
 | _,_,_,.lst h q,r=>by
  cases r
  obtain ⟨its,rv,pl,_⟩:=I.list h
  obtain ⟨o,h1,h2,n,h3⟩:=pl.isList
  obtain ⟨as,ra⟩:=DVs.reads I q rv
  exact ⟨_,.list h1 h2 h3 (by simpa using ra)⟩
theorem DVs.reads(I:Inv X pins σ H s):∀{xs:List V} {ds:List PyData} {us:List Value},DVs X.K H xs ds→Vals xs us→∃as,ReadsAll s.heap us ds as
 | _,_,_,.nil,r=>by cases r;exact ⟨_,.nil⟩
 | _,_,_,.cons h q,r=>by
  cases r with
  | cons r1 r2 =>
   obtain ⟨as,ra⟩:=DV.reads I h r1
   obtain ⟨bs,rb⟩:=DVs.reads I q r2
   exact ⟨_,.cons ra rb⟩
end
end
section
variable{X:Cx}
def rEqD(K:W.Frag)(f:Bool→Bool):R2:=fun x y H Q=>∃dx dy,DV K H x dx∧DV K H y dy∧dx.canLay0=true∧dy.canLay0=true∧dx.depth≤60∧Q (.bl (f (PyData.eqv dx dy))) H
theorem Zma(hu:X.A.units+64<cLine):OpR X (compareOp .Eq) (rEqD X.K id):=by
 intro pins s σ H x y v u Q I rx ry h
 obtain ⟨dx,dy,h1,h2,h3,h4,h5,q⟩:=h
 obtain ⟨as,ra⟩:=h1.reads I rx
 obtain ⟨bs,rb⟩:=h2.reads I ry
 exact PySem.SeqAt.compareEq_reads ra rb h3 h4 (by omega) (ZiC I q rfl)
theorem Zmy(hu:X.A.units+64<cLine):OpR X (compareOp .NotEq) (rEqD X.K not):=by
 intro pins s σ H x y v u Q I rx ry h
 obtain ⟨dx,dy,h1,h2,h3,h4,h5,q⟩:=h
 obtain ⟨as,ra⟩:=h1.reads I rx
 obtain ⟨bs,rb⟩:=h2.reads I ry
 exact PySem.SeqAt.compareNe_reads ra rb h3 h4 (by omega) (ZiC I q rfl)
end
structure Def(K:W.Frag)(mg:Str→Option Value)(x:Str)(st:Stmt)(ps:List Str):Prop where
 ex:∃(f:Addr) (fd:FuncData),Fun K x x st f fd∧Binds K fd ps []∧mg x=some (.ref f)
theorem ZaP{H:Hp}{p:Addr}(h:H p=none)(o:HO):Same H (upd H p o):=fun b u q=>by rw [Zar (Zai q h)];exact q
end L2
namespace L2
open PySem
end L2
namespace L2
end L2
namespace L2
open PySem PySem.Spec PyProof.Rows
def Zmp(ts:List Expr)(env:Env):Sem Bool:=match ts with
 | []=>pure true
 | c::_=>isTrue c env (eval c env)
theorem Zhs(elt target iter:Expr)(scope:Scope)(pos:Pos)(it acc:Value)(env:Env) :
  compTurn (.ListComp elt [⟨target,iter,[],0⟩] scope pos) 0 it acc env=(standAt iter.pos >>= fun _=>pyNext it >>= fun r=>match r with
   | none=>pure (.done .next)
   | some v=>letOwnedTupleGo target it v >>= fun _=>assign target env v >>= fun _ =>
    (eval elt env >>= fun x=>call (.builtin "list.append") [acc,x] >>= fun _=>pure ()) >>= fun _ =>
     again (.compLoop (.ListComp elt [⟨target,iter,[],0⟩] scope pos) 0 it acc env)):=by rfl
theorem ZhM(elt target iter c:Expr)(scope:Scope)(pos:Pos)(it acc:Value)(env:Env) :
  compTurn (.ListComp elt [⟨target,iter,[c],0⟩] scope pos) 0 it acc env=(standAt iter.pos >>= fun _=>pyNext it >>= fun r=>match r with
   | none=>pure (.done .next)
   | some v=>letOwnedTupleGo target it v >>= fun _=>assign target env v >>= fun _ =>
    (forIn [c] true fun (c:Expr) (s:Bool)=>if s=true then (isTrue c env (eval c env) >>= fun ok=>pure (ForInStep.yield ok)) else pure (ForInStep.yield s)) >>= fun s=>if s=true then
     (eval elt env >>= fun x=>call (.builtin "list.append") [acc,x] >>= fun _=>pure ()) >>= fun _ =>
      again (.compLoop (.ListComp elt [⟨target,iter,[c],0⟩] scope pos) 0 it acc env)
     else again (.compLoop (.ListComp elt [⟨target,iter,[c],0⟩] scope pos) 0 it acc env)):=by rfl
theorem ZhE{prog:Program}{w:World}{A:Around}{R:Result→Shared→Prop}{s:Shared}{elt target iter:Expr}{ts:List Expr}{scope:Scope}{pos:Pos}{it acc:Value}{env:Env}(hts:ts.length≤1)(I:Nat→Shared→Prop)
  (turn:∀n s,I n s→wpAny (model prog w) A (pyNext it) (fun r s₁=>match r with
   | none=>R (.ok .next) s₁
   | some v=>wpAny (model prog w) A (letOwnedTupleGo target it v) (fun _ s₁'=>wpAny (model prog w) A (assign target env v) (fun _ s₂=>wpAny (model prog w) A (Zmp ts env) (fun b s₂'=>if b=true then wpAny (model prog w) A (eval elt env) (fun x s₃ =>
     wpAny (model prog w) A (call (.builtin "list.append") [acc,x]) (fun _ s₄=>∃m,m<n∧I m s₄) (notedBy (model prog w) A env fun e s'=>R (.error e) s') s₃)
     (notedBy (model prog w) A env fun e s'=>R (.error e) s') s₂' else ∃m,m<n∧I m s₂') (notedBy (model prog w) A env fun e s'=>R (.error e) s') s₂) (notedBy (model prog w) A env fun e s'=>R (.error e) s') s₁') (notedBy (model prog w) A env fun e s'=>R (.error e) s') s₁) (notedBy (model prog w) A env fun e s'=>R (.error e) s') s)
  (n:Nat) (h:I n s) :
  codeAny (model prog w) A (.compLoop (.ListComp elt [⟨target,iter,ts,0⟩] scope pos) 0 it acc env) R s:=by
 refine codeAny_loop rfl I (fun n s hI=>?_) n h
 show wpAny _ _ ((compTurn (.ListComp elt [⟨target,iter,ts,0⟩] scope pos) 0 it acc env).onRaise (fun x=>do noteFrame x env;theTreesLotGoes x)) _ _ s
 refine wpAny_noted ?_
 match ts,hts with
 | [],_ =>
  rw [Zhs]
  refine wpAny_bind (wpAny_standAt (wpAny_bind (wpAny_mono (turn n s hI) (fun r s₁ h₁=>?_) fun _ _ h'=>h')))
  cases r with
  | none=>exact wpAny_pure h₁
  | some v =>
   refine wpAny_bind (wpAny_mono h₁ (fun _ s₁' h₁'=>?_) fun _ _ h'=>h')
   refine wpAny_bind (wpAny_mono h₁' (fun _ s₂ h₂=>?_) fun _ _ h'=>h')
   show wpAny _ _ ((pure true:Sem Bool) >>= fun b=>if b=true then ((eval elt env >>= fun x=>call (.builtin "list.append") [acc,x] >>= fun _=>pure ()) >>= fun _=>again (.compLoop (.ListComp elt [⟨target,iter,[],0⟩] scope pos) 0 it acc env)) else again (.compLoop (.ListComp elt [⟨target,iter,[],0⟩] scope pos) 0 it acc env)) _ _ s₂
   refine wpAny_bind (wpAny_mono h₂ (fun b s₂' h₂'=>?_) fun _ _ h'=>h')
   cases b with
   | true =>
    rw [if_pos rfl] at h₂' ⊢
    exact wpAny_bind (wpAny_bind (wpAny_mono h₂' (fun x s₃ h₃=>wpAny_bind (wpAny_mono h₃ (fun _ s₄ h₄=>wpAny_pure (wpAny_pure ⟨rfl,h₄⟩)) fun _ _ h'=>h')) fun _ _ h'=>h'))
   | false =>
    rw [if_neg Bool.false_ne_true] at h₂' ⊢
    exact wpAny_pure ⟨rfl,h₂'⟩
 | [c],_ =>
  rw [ZhM]
  refine wpAny_bind (wpAny_standAt (wpAny_bind (wpAny_mono (turn n s hI) (fun r s₁ h₁=>?_) fun _ _ h'=>h')))
  cases r with
  | none=>exact wpAny_pure h₁
  | some v =>
   refine wpAny_bind (wpAny_mono h₁ (fun _ s₁' h₁'=>?_) fun _ _ h'=>h')
   refine wpAny_bind (wpAny_mono h₁' (fun _ s₂ h₂=>?_) fun _ _ h'=>h')
   rw [List.forIn_cons]
   refine wpAny_bind (wpAny_bind ?_)
   rw [if_pos rfl]
   refine wpAny_bind (wpAny_mono h₂ (fun b s₂' h₂'=>wpAny_pure ?_) fun _ _ h'=>h')
   show wpAny _ _ (forIn [] b _) _ _ _
   rw [List.forIn_nil]
   refine wpAny_pure ?_
   cases b with
   | true =>
    rw [if_pos rfl] at h₂' ⊢
    exact wpAny_bind (wpAny_bind (wpAny_mono h₂' (fun x s₃ h₃=>wpAny_bind (wpAny_mono h₃ (fun _ s₄ h₄=>wpAny_pure (wpAny_pure ⟨rfl,h₄⟩)) fun _ _ h'=>h')) fun _ _ h'=>h'))
   | false =>
    rw [if_neg Bool.false_ne_true] at h₂' ⊢
    exact wpAny_pure ⟨rfl,h₂'⟩
theorem Zfs:∀(names:List (Str×NameKind)) (h:Heap) (acc:List (Str×Addr)) (n:Str) (c:Addr),(n,c)∈PySem.cellsFrom h.objs.size names acc→(n,c)∈acc∨((PySem.pushCells h names).IsCell c none∧h.objs.size≤c)
 | [],_,_,_,_,hm=>.inl hm
 | (name,kind)::r,h,acc,n,c,hm=>by
  unfold PySem.cellsFrom at hm
  unfold PySem.pushCells
  split at hm
  ·rename_i hk
   rw [if_pos hk]
   have hm':(n,c)∈PySem.cellsFrom (h.push { cls:=.type "cell", data:=.cell none }).objs.size r ((name,h.objs.size)::acc):=by rw [Heap.size_push];exact hm
   rcases Zfs r (h.push { cls:=.type "cell", data:=.cell none }) ((name,h.objs.size)::acc) n c hm' with z | ⟨z1,z2⟩
   ·rcases List.mem_cons.mp z with e | z
    ·cases e
     exact .inr ⟨⟨_,PySem.pushCells_keeps r _ _ _ (Heap.get?_push_size _ rfl),rfl⟩,Nat.le_refl _⟩
    ·exact .inl z
   ·rw [Heap.size_push] at z2
    exact .inr ⟨z1,by omega⟩
  ·rename_i hk
   rw [if_neg hk]
   exact Zfs r h acc n c hm
theorem Ze8:∀(names:List (Str×NameKind)) (k:Nat) (acc:List (Str×Addr)),(∀n c,(n,c)∈acc→c<k)→(∀n n' c,(n,c)∈acc→(n',c)∈acc→n=n')→∀n n' c,(n,c)∈PySem.cellsFrom k names acc→(n',c)∈PySem.cellsFrom k names acc→n=n'
 | [],_,_,_,hi,n,n',c,h1,h2=>hi n n' c h1 h2
 | (name,kind)::r,k,acc,hl,hi,n,n',c,h1,h2=>by
  unfold PySem.cellsFrom at h1 h2
  split at h1
  ·rename_i hk
   rw [if_pos hk] at h2
   refine Ze8 r (k+1) ((name,k)::acc) (fun m d hm=>?_) (fun m m' d hm hm'=>?_) n n' c h1 h2
   ·rcases List.mem_cons.mp hm with e | hm
    ·cases e;exact Nat.lt_succ_self _
    ·exact Nat.lt_succ_of_lt (hl m d hm)
   ·rcases List.mem_cons.mp hm with e | hm<;>rcases List.mem_cons.mp hm' with e' | hm'
    ·cases e;cases e';rfl
    ·cases e;exact absurd (hl _ _ hm') (Nat.lt_irrefl _)
    ·cases e';exact absurd (hl _ _ hm) (Nat.lt_irrefl _)
    ·exact hi m m' d hm hm'
  ·rename_i hk
   rw [if_neg hk] at h2
   exact Ze8 r k acc hl hi n n' c h1 h2
theorem Zfc{x:Str}:∀(names:List (Str×NameKind)) (k:Nat) (acc:List (Str×Addr)),(∀y∈names,y.2=.cell→y.1≠x)→(PySem.cellsFrom k names acc).lookup x=acc.lookup x
 | [],_,_,_=>rfl
 | (name,kind)::r,k,acc,h=>by
  unfold PySem.cellsFrom
  split
  ·rename_i hk
   rw [Zfc r (k+1) _ fun y hy=>h y (List.mem_cons_of_mem _ hy)]
   have ne:name≠x:=h (name,kind) List.mem_cons_self (by simpa using hk)
   rw [List.lookup_cons,beq_false_of_ne (Ne.symm ne)]
  ·exact Zfc r k acc fun y hy=>h y (List.mem_cons_of_mem _ hy)
theorem Zeu{x:Str}:∀(names:List (Str×NameKind)) (k:Nat) (acc:List (Str×Addr)),((acc.lookup x).isSome=true∨(x,NameKind.cell)∈names)→((PySem.cellsFrom k names acc).lookup x).isSome=true
 | [],_,_,h=>by
  rcases h with h | h
  ·exact h
  ·cases h
 | (name,kind)::r,k,acc,h=>by
  unfold PySem.cellsFrom
  split
  ·rename_i hk
   refine Zeu r (k+1) _ ?_
   by_cases e:x=name
   ·subst e;exact .inl (by simp)
   ·rcases h with h | h
    ·exact .inl (by rw [List.lookup_cons,beq_false_of_ne e];exact h)
    ·rcases List.mem_cons.mp h with z | h
     ·cases z;exact absurd rfl e
     ·exact .inr h
  ·rename_i hk
   refine Zeu r k acc ?_
   rcases h with h | h
   ·exact .inl h
   ·rcases List.mem_cons.mp h with z | h
    ·cases z;exact absurd rfl hk
    ·exact .inr h
theorem Zjd{M:Model}{A:Around}{E:Value→Shared→Prop}{s:Shared}{scope:Scope}{globals:Addr}{closure:List (Str×Addr)}{qual:Str}{func:Option Addr}{code:Value}{outer:Env}{builtins:Addr}{Q:Env→Shared→Prop}
  (hQ:∀h',h'.Ns s.heap.objs.size (fun _=>none)→(∀b o,s.heap.get? b=some o→h'.get? b=some o)→(∀n c,(n,c)∈PySem.cellsFrom (s.heap.objs.size+1) scope.names closure→(n,c)∈closure∨(h'.IsCell c none∧s.heap.objs.size+1≤c)) →
   Q (newEnv scope s.heap.objs.size globals (PySem.cellsFrom (s.heap.objs.size+1) scope.names closure) qual func code (some outer) builtins) { s with heap:=h' }) :
  wpAny M A (newFunctionEnv scope globals closure [] qual func code (some outer) builtins) Q E s:=by
 simp only [newFunctionEnv,Option.isSome_some,if_true]
 refine wpAny_bind (wpAny_alloc ?_)
 refine wpAny_bind (wpAny_layCells _ (fun name kind cells=>by cases hkc:kind==NameKind.cell<;>simp [hkc]) _ _ _ _ ?_)
 rw [show ({ s with heap:=s.heap.push { cls:=.type "dict", data:=.dict #[] } }:Shared).heap.objs.size=s.heap.objs.size+1 from Heap.size_push ..]
 rw [List.forIn_nil]
 refine wpAny_bind (wpAny_pure (wpAny_pure ?_))
 refine hQ _ ((Heap.Ns.new s.heap (.type "dict")).keeps (PySem.pushCells_keeps _ _)) (fun b o e=>PySem.pushCells_keeps _ _ b o (Heap.get?_push_of_some _ e)) fun n c hm=>?_
 have z:=Zfs scope.names (s.heap.push { cls:=.type "dict", data:=.dict #[] }) closure n c (by rw [Heap.size_push];exact hm)
 rwa [Heap.size_push] at z
def PTs(X:Cx)(ts:List Expr)(tt:TT):Prop :=
 ∀(pins:List (Addr×Obj)) (s:Shared) (σ:St) (H:Hp) (Q:Bool→Hp→Prop),Inv X pins σ H s→tt σ H Q→wpAny (model X.prog X.w) X.A (Zmp ts X.env) (TP X pins σ Q) X.xe s
def tYes:TT:=fun _ H Q=>Q true H
theorem ZnI{X:Cx}:PTs X [] tYes:=fun _ _ _ H _ I h=>wpAny_pure ⟨H,I,h⟩
def ZaN(X:Cx)(N:List Str)(scope:Scope)(cl:List (Str×Addr))(C:Addr)(s₂:Shared)(H₂:Hp)(fp:List Addr)(pn:List (Addr×Obj)):Cx :=
 { X with N:=N,s₀:=s₂,H₀:=H₂,env:=compEnvC scope (PySem.cellsFrom (C+1) scope.names cl) C X.env,outer:=X.stack,ex:=fp,fn:=fun x=>scope.names.lookup x==some .cell,pn:=pn,xe:=fun _ _=>False }
def Zjl(X:Cx)(sc:Scope)(cl:List (Str×Addr)):List (Str×Nat)→Prop
 | []=>True
 | p::r=>(X.N[p.2]?=some p.1∧X.env.scope.names.lookup p.1=some .cell∧(sc.names.lookup p.1=some .cell)∧∃c,cl.lookup p.1=some c∧X.env.cells.lookup p.1=some c)∧Zjl X sc cl r
theorem Zjl.get{X:Cx}{sc:Scope}{cl:List (Str×Addr)}:∀{cap:List (Str×Nat)} {j:Nat} {p:Str×Nat},Zjl X sc cl cap→cap[j]?=some p →
  X.N[p.2]?=some p.1∧X.env.scope.names.lookup p.1=some .cell∧(sc.names.lookup p.1=some .cell)∧∃c,cl.lookup p.1=some c∧X.env.cells.lookup p.1=some c
 | [],_,_,_,e=>by simp at e
 | _::_,0,_,h,e=>by simp at e;subst e;exact h.1
 | _::_,j+1,_,h,e=>Zjl.get (j:=j) h.2 (by simpa using e)
def capt(σ:St)(cap:List (Str×Nat)):St:=cap.map fun p=>(σ[p.2]?).join
def st0(own:List Str)(σ:St)(cap:List (Str×Nat)):St:=List.replicate own.length none++capt σ cap
def ZcP(J:It)(g:TG)(tt:TT)(te:TE)(own:List Str)(cap:List (Str×Nat))(σ:St)(Q:VK)(H1:Hp):Prop:=∃W:Nat→Nat→List V→Hp→Prop,(∃m,W 0 m [] H1)∧∀i m acc H,W i m acc H→acc.length≤sizeLine ∧
 ((J.stop i H∧∀p,H p=none→Q (.ref p) (upd H p (.lst acc))) ∨
  (J.go i H∧∀x H',J.yld i H x H'→g x (st0 own σ cap) H' fun σ2 H2=>σ2.drop own.length=capt σ cap∧tt σ2 H2 fun b H3=>if b=true then te σ2 H3 fun v H4=>acc.length<sizeLine∧∃m',m'<m∧W (i+1) m' (acc++[v]) H4 else ∃m',m'<m∧W (i+1) m' acc H3))
abbrev Fam(α:Type):=Addr→Shared→Hp→List Addr→List (Addr×Obj)→α
def Zef(wi:TI)(g:Fam TG)(tt:Fam TT)(te:Fam TE)(own:List Str)(cap:List (Str×Nat)):TE:=fun σ H Q=>wi σ H fun J H1=>∀C s H2 fp pn,ZcP J (g C s H2 fp pn) (tt C s H2 fp pn) (te C s H2 fp pn) own cap σ Q H1
structure ZaG(X:Cx)(own:List Str)(cap:List (Str×Nat))(scope:Scope)(cl:List (Str×Addr)):Prop where
 clos:closureFor scope X.env=pure cl
 kind:scope.kind=.function
 nown:∀x c,(x,c)∈cl→∀y∈scope.names,y.2=.cell→y.1≠x
 locals:∀y∈scope.names,y.2=.local→scope.names.lookup y.1=some .local
 sub:∀x c,(x,c)∈cl→X.env.cells.lookup x=some c
 has:∀k x,((relabel scope X.env).names.lookup x=some .cell∨(relabel scope X.env).names.lookup x=some .free)→∃c,(PySem.cellsFrom k scope.names cl).lookup x=some c
 cap:Zjl X (relabel scope X.env) cl cap
section
variable{X:Cx}{own:List Str}{cap:List (Str×Nat)}{scope:Scope}{cl:List (Str×Addr)}{pins:List (Addr×Obj)}{σ:St}{H:Hp}{s:Shared}{fp:List Addr}{tg:Expr}{J:It}{it:Addr}{tn:Nat→Heap→Prop}
theorem Zkv{i:Nat}{v:V}(e:(st0 own σ cap)[i]?=some (some v)):∃j p,i=own.length+j∧cap[j]?=some p∧σ[p.2]?=some (some v):=by
 unfold st0 at e
 by_cases hi:i<own.length
 ·rw [List.getElem?_append_left (by simpa using hi),List.getElem?_replicate,if_pos hi] at e
  cases e
 ·rw [List.getElem?_append_right (by simpa using hi),List.length_replicate] at e
  unfold capt at e
  rw [List.getElem?_map] at e
  cases q:cap[i - own.length]? with
  | none=>rw [q] at e;cases e
  | some p =>
   rw [q] at e
   have e':(σ[p.2]?).join=some v:=Option.some.inj e
   refine ⟨i - own.length,p,by omega,q,?_⟩
   cases z:σ[p.2]? with
   | none=>rw [z] at e';cases e'
   | some o=>rw [z] at e';have e2:o=some v:=e';rw [e2]
theorem Inv.comp(I:Inv X pins σ H s)(O:ZaG X own cap scope cl)(T:Turn X.prog X.w X.K tg J fp it tn)(st:tn 0 s.heap)(f:∀b∈fp,FpOk X pins H b){C:Addr}{h':Heap}{t':Nat}{m:Str→Option Value}(hC:s.heap.objs.size≤C)
  (k:∀b o,s.heap.get? b=some o→h'.get? b=some o) (hn:h'.Ns C m) (hx:∀n c,(n,c)∈PySem.cellsFrom (C+1) scope.names cl→(n,c)∈cl∨(h'.IsCell c none∧C+1≤c)) :
  Inv (ZaN X (own++cap.map (·.1)) scope cl C s H fp (X.pn++pins)) [] (st0 own σ cap) H { s with heap:=h',toks:=t' }:=by
 have neC:∀{b:Addr} {o:Obj},s.heap.get? b=some o→b≠C:=fun e=>Nat.ne_of_lt (Nat.lt_of_lt_of_le (Heap.lt_size e) hC)
 have cellC:∀x c,(x,c)∈cl→∃v,s.heap.IsCell c v:=fun x c e=>I.cell x c (O.sub x c e)
 have ltC:∀x c,(x,c)∈cl→c<C+1:=fun x c e=>by
  obtain ⟨v,o,ho,_⟩:=cellC x c e
  exact Nat.lt_succ_of_le (Nat.le_of_lt (Nat.lt_of_lt_of_le (Heap.lt_size ho) hC))
 have nefp:∀b∈fp,b≠C:=fun b hb=>by
  obtain ⟨o,e,_⟩:=T.obj _ _ st b hb
  exact neC e
 refine ⟨⟨I.ok.mod,O.kind,I.ok.glob,I.ok.blt,hC,fun x y c e1 e2=>Ze8 scope.names (C+1) cl ltC (fun n n' c h1 h2=>I.ok.inj n n' c (O.sub n c h1) (O.sub n' c h2)) x y c (PySem.mem_of_lookup e1) (PySem.mem_of_lookup e2),O.has (C+1),fun x c e1 e2=>?_,I.ok.hd,I.ok.frames,.inl rfl,fun b hb=>⟨nefp b hb,fun x c e=>?_⟩,I.bs,Nat.le_trans I.ok.bsz I.sz,fun b o e hb=>?_,fun b hb z=>?_,I.stack,I.stkFree⟩,
  rfl,I.bare,Un.kept k,⟨m,hn,fun i x v e1 e2 e3=>?_⟩,fun x c e=>?_,?_,fun x c e=>?_,fun p hp=>?_,I.hok.kept k,?_⟩
 ·have e1':scope.names.lookup x=some .cell:=by simpa [ZaN] using e1
  rcases hx x c (PySem.mem_of_lookup e2) with z | ⟨_,z⟩
  ·exact absurd rfl (O.nown x c z (x,.cell) (PySem.mem_of_lookup e1') rfl)
  ·exact Nat.le_trans hC (Nat.le_of_succ_le z)
 ·rcases hx x c (PySem.mem_of_lookup e) with z | ⟨_,z⟩
  ·exact (f b hb).2.2.2.2.1 x c (O.sub x c z)
  ·obtain ⟨o,eo,_⟩:=T.obj _ _ st b hb
   exact Nat.ne_of_gt (Nat.lt_of_lt_of_le (Nat.lt_of_lt_of_le (Heap.lt_size eo) hC) (Nat.le_of_succ_le z))
 ·rcases (f b hb).2.2.2.1 with z | z
  ·exact I.ok.noex b o e z
  ·exact absurd (Nat.lt_of_lt_of_le (Heap.lt_size (I.ok.bs b o e).1) z) (Nat.lt_irrefl _)
 ·rcases List.mem_cons.mp (I.stkSub b z) with q | q
  ·exact (f b hb).2.1 q
  ·exact (f b hb).2.2.1 q
 ·obtain ⟨j,p,rfl,hp,hs⟩:=Zkv e2
  obtain ⟨c1,c2,c3,c,c4,c5⟩:=O.cap.get hp
  have e1':(own++cap.map (·.1))[own.length+j]?=some x:=e1
  rw [List.getElem?_append_right (Nat.le_add_right _ _),Nat.add_sub_cancel_left,List.getElem?_map,hp] at e1'
  have ex:p.1=x:=Option.some.inj e1'
  subst ex
  obtain ⟨m2,_,hl⟩:=I.loc
  obtain ⟨u,r,l⟩:=hl p.2 p.1 v c1 hs (.inr (.inl c2))
  refine ⟨u,r,.inr ⟨.inl c3,c,(Zfc scope.names (C+1) cl fun y hy hk=>O.nown p.1 c (PySem.mem_of_lookup c4) y hy hk).trans c4,?_⟩⟩
  rcases l with ⟨z,_⟩ | ⟨_,c',z,⟨o,ho,hd⟩⟩
  ·have z':X.env.scope.names.lookup p.1=some .local:=z
   rw [c2] at z';cases z'
  ·rw [c5] at z;cases z
   exact ⟨o,k _ _ ho,hd⟩
 ·rcases hx x c (PySem.mem_of_lookup e) with z | ⟨z,_⟩
  ·obtain ⟨v,o,ho,hd⟩:=cellC x c z
   exact ⟨v,o,k _ _ ho,hd⟩
  ·exact ⟨none,z⟩
 ·exact I.hok.fresh hC
 ·rcases hx x c (PySem.mem_of_lookup e) with z | ⟨_,z⟩
  ·exact I.freeC x c (O.sub x c z)
  ·exact I.hok.fresh (Nat.le_trans hC (Nat.le_of_succ_le z))
 ·have hp':p∈X.pn++pins:=by simpa [ZaN] using hp
  obtain ⟨e,n,ne,nf,d⟩:=I.pin p hp'
  exact ⟨k _ _ e,n,neC e,fun z=>(List.mem_cons.mp (I.stkSub p.1 z)).elim ne nf,d⟩
 ·show (st0 own σ cap).length=(own++cap.map (·.1)).length
  unfold st0 capt
  simp
theorem Cx.Ok.rexe{X:Cx}{xe:Value→Shared→Prop}(o:X.Ok):({ X with xe:=xe }:Cx).Ok:=by
 cases o
 constructor<;>assumption
theorem Inv.rexe{X:Cx}{pins:List (Addr×Obj)}{σ:St}{H:Hp}{s:Shared}{xe:Value→Shared→Prop}(I:Inv X pins σ H s):Inv { X with xe:=xe } pins σ H s:=by
 obtain ⟨ok,i1,i2,i3,i4,i5,i6,i7,i8,i9,i10⟩:=I
 exact ⟨ok.rexe,i1,i2,i3,i4,i5,i6,i7,i8,i9,i10⟩
def ZaA(xf:Addr→Shared→Hp→List Addr→Value→Shared→Prop)(X:Cx)(N:List Str)(scope:Scope)(cl:List (Str×Addr))(C:Addr)(s₂:Shared)(H₂:Hp)(fp:List Addr)(pn:List (Addr×Obj)):Cx:={ ZaN X N scope cl C s₂ H₂ fp pn with xe:=xf C s₂ H₂ fp }
theorem ZhB{xf:Addr→Shared→Hp→List Addr→Value→Shared→Prop}{elt iter:Expr}{ts:List Expr}{pos:Pos}{gF:Fam TG}{ttF:Fam TT}{teF:Fam TE}{E:Value→Shared→Prop}(O:ZaG X own cap scope cl)(hc:X.calm=true)
  (hgF:∀C s H fp pn,PG (ZaA xf X (own++cap.map (·.1)) scope cl C s H fp pn) tg (gF C s H fp pn)) (htF:∀C s H fp pn,PTs (ZaA xf X (own++cap.map (·.1)) scope cl C s H fp pn) ts (ttF C s H fp pn)) (heF:∀C s H fp pn,PE (ZaA xf X (own++cap.map (·.1)) scope cl C s H fp pn) elt (teF C s H fp pn)) (hts:ts.length≤1)
  (I2:Inv X pins σ H s) (T:Turn X.prog X.w X.K tg J fp it tn) (st2:tn 0 s.heap) (f2:∀b∈fp,FpOk X pins H b) {Q:VK}
  (hw:∀C s H2 fp pn,ZcP J (gF C s H2 fp pn) (ttF C s H2 fp pn) (teF C s H2 fp pn) own cap σ Q H)
  {R:Value→Addr→Result→Shared→Prop}
  (fin:∀(D C:Addr) (H':Hp) (s':Shared) (m:Str→Option Value),s.heap.objs.size≤C→s'.heap.Ns C m→H' C=none →
   (∀h',Heap.SameBut C s'.heap h'→Inv X pins σ H' { s' with heap:=h' })→Q (.ref D) H'→R (.ref D) C (.ok .next) s')
  (hexc:∀(D C:Addr) (cells:List (Str×Addr)) (e:Value) (s':Shared),s.heap.objs.size≤C→xf C s H fp e s'→notedBy (model X.prog X.w) X.A (compEnvC scope cells C X.env) (fun e s'=>R (.ref D) C (.error e) s') e s') :
  wpAny (model X.prog X.w) X.A (newList []) (fun acc s₃=>wpAny (model X.prog X.w) X.A (newFunctionEnv scope X.env.globals cl [] X.env.qual none .none (some X.env)) (fun cenv s₄ =>
   codeAny (model X.prog X.w) X.A (.compStart (.ListComp elt [⟨tg,iter,ts,0⟩] scope pos) 0 (.ref it) acc { cenv with scope:=relabel scope X.env }) (R acc cenv.locals) s₄) E s₃) E s:=by
 refine wpAny_newObj_type (Zjd (fun h₁ hns₁ hk₁ hx₁=>?_))
 dsimp only at hns₁ hk₁ hx₁ ⊢
 generalize hHh:s.heap.push { cls:=.type "list", dict:=none,data:=.seq ([]:List Value).toArray }=Hh at hns₁ hk₁ hx₁ ⊢
 have hCs:Hh.objs.size=s.heap.objs.size+1:=by rw [←hHh,Heap.size_push]
 generalize hCC:Hh.objs.size=C at hns₁ hx₁ hCs ⊢
 generalize hDD:s.heap.objs.size=D at hCs ⊢
 have ltDC:D<C:=by omega
 have hDC:D≠C:=Nat.ne_of_lt ltDC
 have hsD:s.heap.objs.size≤D:=Nat.le_of_eq hDD
 have hsC:s.heap.objs.size≤C:=by omega
 have ltS:∀{b:Addr} {o:Obj},s.heap.get? b=some o→b<D:=fun e=>by rw [←hDD];exact Heap.lt_size e
 have old:∀b o,s.heap.get? b=some o→h₁.get? b=some o:=fun b o e=>by
  refine hk₁ b o ?_
  rw [←hHh]
  exact Heap.get?_push_of_some _ e
 have hD0:h₁.PlainList D #[]:=by
  have z:Hh.get? D=some { cls:=.type "list", dict:=none,data:=.seq ([]:List Value).toArray }:=by
   rw [←hHh,←hDD]
   exact Heap.get?_push_size _ rfl
  exact ⟨_,hk₁ D _ z⟩
 obtain ⟨W,⟨m0,w0⟩,turn⟩:=hw C s H fp (X.pn++pins)
 have hg:=hgF C s H fp (X.pn++pins)
 have ht:=htF C s H fp (X.pn++pins)
 have he:=heF C s H fp (X.pn++pins)
 have I':Inv (ZaA xf X (own++cap.map (·.1)) scope cl C s H fp (X.pn++pins)) [] (st0 own σ cap) H { s with heap:=h₁,toks:=s.toks }:=(I2.comp (t':=s.toks) O T st2 f2 hsC old hns₁ hx₁).rexe
 have cne:∀x c,(PySem.cellsFrom (C+1) scope.names cl).lookup x=some c→(∃v,s.heap.IsCell c v∧X.env.cells.lookup x=some c)∨C<c:=fun x c e=>by
  rcases hx₁ x c (PySem.mem_of_lookup e) with z | ⟨_,z⟩
  ·obtain ⟨v,hv⟩:=I2.cell x c (O.sub x c z)
   exact .inl ⟨v,hv,O.sub x c z⟩
  ·exact .inr z
 have st':tn 0 h₁:=T.keep _ _ _ st2 fun b hb o e=>old b o e
 have nofr:∀{a:Addr},s.heap.objs.size≤a→a∉frs X.stack:=fun {a} ha z=>by
  rcases List.mem_cons.mp (I2.stkSub a z) with q | q
  ·exact absurd (Nat.lt_of_lt_of_le I2.lt ha) (by rw [q];exact Nat.lt_irrefl _)
  ·exact I2.nofs ha q
 have ltfp:∀b∈fp,b<D:=fun b hb=>by
  obtain ⟨o,e,_⟩:=T.obj _ _ st2 b hb
  exact ltS e
 have fpk:∀{H3:Hp} {objD:Obj},(∀b∈fp,H3 b=none)→∀b∈fp,FpOk (ZaA xf X (own++cap.map (·.1)) scope cl C s H fp (X.pn++pins)) [(D,objD)] H3 b:=fun {H3 objD} hn b hb=>by
  obtain ⟨_,f1,f3,f4,f5,f6⟩:=f2 b hb
  have lb:=ltfp b hb
  refine ⟨hn b hb,(Nat.ne_of_lt (Nat.lt_trans lb ltDC)),fun z=>?_,.inl hb,fun x c e=>?_,fun p hp=>?_⟩
  ·rcases List.mem_cons.mp (I2.stkSub b z) with q | q
   ·exact f1 q
   ·exact f3 q
  ·rcases cne x c e with ⟨_,_,z⟩ | z
   ·exact f5 x c z
   ·exact Nat.ne_of_gt (Nat.lt_trans lb (Nat.lt_trans ltDC z))
  ·rcases List.mem_append.mp hp with z | z
   ·exact f6 p z
   ·have z':p=(D,objD):=by simpa using z
    subst z'
    exact Nat.ne_of_gt lb
 have loop:∀s₃:Shared,s₃={ s with heap:=h₁ } →
   codeAny (model X.prog X.w) X.A (.compLoop (.ListComp elt [⟨tg,iter,ts,0⟩] scope pos) 0 (.ref it) (.ref D) (compEnvC scope (PySem.cellsFrom (C+1) scope.names cl) C X.env)) (R (.ref D) C) s₃:=by
  rintro s₃ rfl
  refine ZhE hts (fun n s'=>∃(i:Nat) (acc:List V) (its:List Value) (H':Hp),Inv (ZaA xf X (own++cap.map (·.1)) scope cl C s H fp (X.pn++pins)) [] (st0 own σ cap) H' s'∧tn i s'.heap∧(∀b∈fp,H' b=none)∧H' D=none ∧
   s'.heap.PlainList D its.toArray∧Vals acc its∧W i n acc H') ?_ m0 ⟨0,[],[],H,I',st',fun b hb=>(f2 b hb).1,I2.hok.fresh hsD,hD0,.nil,w0⟩
  rintro n s3 ⟨i,acc,its,H3,I3,st3,fr3,nD,⟨nn,hD⟩,rv,w3⟩
  obtain ⟨hlen,hturn⟩:=turn i n acc H3 w3
  have lenV:=rv.length
  have pinD:∀{s5:Shared} {H5:Hp},s5.heap.get? D=some { cls:=.type "list", data:=.seq its.toArray nn }→H5 D=none→∀p∈[(D,({ cls:=.type "list", data:=.seq its.toArray nn }:Obj))],s5.heap.get? p.1=some p.2∧H5 p.1=none∧p.1≠C∧p.1∉frs X.stack∧∀v,p.2.data≠.cell v:=by
   intro s5 H5 e1 e2 p hp
   have z':p=(D,({ cls:=.type "list", data:=.seq its.toArray nn }:Obj)):=by simpa using hp
   subst z'
   exact ⟨e1,e2,hDC,nofr hsD,fun v z=>by cases z⟩
  have I3p:Inv (ZaA xf X (own++cap.map (·.1)) scope cl C s H fp (X.pn++pins)) [(D,{ cls:=.type "list", data:=.seq its.toArray nn })] (st0 own σ cap) H3 s3:=I3.pins_of (pinD hD nD)
  rcases hturn with ⟨stop,qn⟩ | ⟨go,step⟩
  ·refine wpAny_mono (T.done (ZaA xf X (own++cap.map (·.1)) scope cl C s H fp (X.pn++pins)) rfl rfl rfl hc i _ s3 _ H3 (fun _ _=>False) I3p (fpk fr3) st3 stop) (fun r s4 h4=>?_) (fun _ _ z=>z.elim)
   obtain ⟨hr,I4⟩:=h4
   subst hr
   obtain ⟨m4,hm4,_⟩:=I4.loc
   have hD4:=(I4.pin (D,{ cls:=.type "list", data:=.seq its.toArray nn }) (List.mem_append_right _ (by simp))).1
   have nC:H3 C=none:=I4.free
   refine fin D C (upd H3 D (.lst acc)) s4 m4 hsC hm4 (by rw [Zar (Ne.symm hDC)];exact nC) (fun h' sb=>?_) (qn D nD)
   have kc:∀b o,b≠C→s4.heap.get? b=some o→h'.get? b=some o:=fun b o hb e=>sb.extBut b o hb e
   have neD:∀{b:Addr} {o:Obj},s.heap.get? b=some o→b≠D:=fun e=>Nat.ne_of_lt (ltS e)
   have neC:∀{b:Addr} {o:Obj},s.heap.get? b=some o→b≠C:=fun e=>Nat.ne_of_lt (Nat.lt_trans (ltS e) ltDC)
   refine I2.call' (s':={ s4 with heap:=h' }) (ch:=fp) I4.os ⟨?_,?_,?_,?_,?_,?_,?_⟩ (fun a o e=>?_) I4.bare (fun b hb=>?_)
   ·exact fun b o e n hb hx=>kc b o (neC e) (I4.base.keep b o e n hb hx)
   ·intro b o e n hb hx
    obtain ⟨sl,q⟩:=I4.base.slot b o e n hb hx
    exact ⟨sl,kc b _ (neC e) q⟩
   ·intro b o e n hx
    rw [Zar (neD e)]
    exact I4.base.free b o e n hx
   ·intro b o e hx
    obtain ⟨o',q⟩:=I4.base.there b o e hx
    exact ⟨o',kc b _ (neC e) q⟩
   ·intro b xs e
    have q:=I4.base.tups b xs e
    rw [Zar (Zai q nD)]
    exact q
   ·intro b o u e
    have q:=I4.base.frzs b o u e
    rw [Zar (Zai q nD)]
    exact q
   ·intro b ps e
    obtain ⟨more,q⟩:=I4.base.tbls b ps e
    exact ⟨more,by rw [Zar (Zai q nD)];exact q⟩
   ·by_cases ha:a=D
    ·subst ha
     rw [Zal] at e
     cases e
     exact ⟨hlen,its,nn,rv,kc _ _ hDC hD4⟩
    ·rw [Zar ha] at e
     refine (I4.hok a o e).stay (fun b u hb q=>kc b u ?_ q) (fun b q=>?_) (fun b xs q=>?_)
     ·rcases hb with rfl | hb
      ·exact Zai e nC
      ·exact Zai hb nC
     ·rw [Zar (Zai q nD)];exact q
     ·rw [Zar (Zai q nD)];exact q
   ·obtain ⟨_,f1,_,f4,f5,f6⟩:=f2 b hb
    exact ⟨f4,f1,f5,f6⟩
  ·refine wpAny_mono (T.item (ZaA xf X (own++cap.map (·.1)) scope cl C s H fp (X.pn++pins)) rfl rfl rfl hc i _ s3 _ H3 (fun _ _=>False) I3p (fpk fr3) st3 go) (fun r s4 h4=>?_) (fun _ _ z=>z.elim)
   obtain ⟨u,hr,h4⟩:=h4
   subst hr
   refine wpAny_mono h4 (fun _ s5 h5=>?_) (fun _ _ z=>z.elim)
   obtain ⟨x,H5,I5,r5,y5,st5,fr5⟩:=h5
   have I5':=I5.pinned (fpk fr5) (T.obj _ _ st5)
   refine wpAny_mono (hg _ s5 _ H5 x u _ I5' r5 (step x H5 y5)) (fun _ s6 h6=>?_) (fun e s' z=>hexc D C _ e s' hsC z)
   obtain ⟨σ6,H6,I6,e6,q6⟩:=h6
   refine wpAny_mono (ht _ s6 σ6 H6 _ I6 q6) (fun bb s6' h6'=>?_) (fun e s' z=>hexc D C _ e s' hsC z)
   obtain ⟨H6',I6',q6'⟩:=h6'
   have stay:∀{H7:Hp} {s7:Shared},Inv (ZaA xf X (own++cap.map (·.1)) scope cl C s H fp (X.pn++pins)) [] σ6 H7 s7→Inv (ZaA xf X (own++cap.map (·.1)) scope cl C s H fp (X.pn++pins)) [] (st0 own σ cap) H7 s7:=fun {H7 s7} I8=>by
    refine I8.weak (I'.len.trans I8.len.symm) (fun j v e=>?_)
    obtain ⟨l,p,rfl,hp,hs⟩:=Zkv e
    have q:(σ6.drop own.length)[l]?=some (some v):=by
     rw [e6]
     unfold capt
     rw [List.getElem?_map,hp]
     show some ((σ[p.2]?).join)=_
     rw [hs]
     rfl
    rwa [List.getElem?_drop] at q
   cases bb with
   | false =>
    rw [if_neg Bool.false_ne_true] at q6' ⊢
    obtain ⟨m',hm,w7⟩:=q6'
    obtain ⟨hD7,nD7,_⟩:=I6'.pin (D,{ cls:=.type "list", data:=.seq its.toArray nn }) (List.mem_append_right _ (by simp))
    have st7:tn (i+1) s6'.heap:=T.keep _ _ _ st5 fun b hb o e=>(I6'.pin (b,o) (List.mem_append_right _ (List.mem_append_right _ (Zb1 hb e)))).1
    have fr7:∀b∈fp,H6' b=none:=fun b hb=>by
     obtain ⟨o,e,_⟩:=T.obj _ _ st5 b hb
     exact (I6'.pin (b,o) (List.mem_append_right _ (List.mem_append_right _ (Zb1 hb e)))).2.1
    exact ⟨m',hm,i+1,acc,its,H6',stay (I6'.pins_of fun p hp=>nomatch hp),st7,fr7,nD7,⟨nn,hD7⟩,rv,w7⟩
   | true =>
   rw [if_pos rfl] at q6' ⊢
   refine wpAny_mono (he _ s6' σ6 H6' _ I6' q6') (fun y s7 h7=>?_) (fun e s' z=>hexc D C _ e s' hsC z)
   obtain ⟨v,H7,I7,r7,hl7,m',hm,w7⟩:=h7
   obtain ⟨hD7,nD7,_⟩:=I7.pin (D,{ cls:=.type "list", data:=.seq its.toArray nn }) (List.mem_append_right _ (by simp))
   have st7:tn (i+1) s7.heap:=T.keep _ _ _ st5 fun b hb o e=>(I7.pin (b,o) (List.mem_append_right _ (List.mem_append_right _ (Zb1 hb e)))).1
   have fr7:∀b∈fp,H7 b=none:=fun b hb=>by
    obtain ⟨o,e,_⟩:=T.obj _ _ st5 b hb
    exact (I7.pin (b,o) (List.mem_append_right _ (List.mem_append_right _ (Zb1 hb e)))).2.1
   refine wpAny_list_append_plain (l:=D) (items:=its.toArray) ⟨nn,hD7⟩ (fun h8 hp8 hs8=>?_) (by rw [List.size_toArray];omega)
   have I7w:Inv (ZaA xf X (own++cap.map (·.1)) scope cl C s H fp (X.pn++pins)) [] σ6 H7 s7:=I7.pins_of fun p hp=>nomatch hp
   have I8:Inv (ZaA xf X (own++cap.map (·.1)) scope cl C s H fp (X.pn++pins)) [] σ6 H7 { s7 with heap:=h8 }:=by
    refine I7w.turned (t':=s7.toks) (it:=D) (fun b o hb e=>hs8.extBut b o hb e) nD7 hDC (.inr hsD) (fun x c e=>?_) (fun p hp=>?_)
    ·rcases cne x c e with ⟨v,⟨o,ho,_⟩,_⟩ | z
     ·exact Nat.ne_of_lt (ltS ho)
     ·exact Nat.ne_of_gt (Nat.lt_trans ltDC z)
    ·have hp':p∈X.pn++pins:=by simpa [ZaA,ZaN] using hp
     exact Nat.ne_of_lt (ltS (I2.pin p hp').1)
   have I9:=stay I8
   refine ⟨m',hm,i+1,acc++[v],its++[y],H7,I9,T.keep _ _ _ st7 (fun b hb o e=>hs8.extBut b o (Nat.ne_of_lt (ltfp b hb)) e),fr7,nD7,?_,rv.append (.cons r7 .nil),w7⟩
   simpa using hp8
 exact codeAny_compStart_list (loop _ rfl) (T.self X.A 0 _ _ _ st' (loop _ rfl))
theorem Zix{elt iter:Expr}{ts:List Expr}{pos:Pos}{gF:Fam TG}{ttF:Fam TT}{teF:Fam TE}{E:Value→Shared→Prop}(O:ZaG X own cap scope cl)(hc:X.calm=true)
  (hgF:∀C s H fp pn,PG (ZaN X (own++cap.map (·.1)) scope cl C s H fp pn) tg (gF C s H fp pn)) (htF:∀C s H fp pn,PTs (ZaN X (own++cap.map (·.1)) scope cl C s H fp pn) ts (ttF C s H fp pn)) (heF:∀C s H fp pn,PE (ZaN X (own++cap.map (·.1)) scope cl C s H fp pn) elt (teF C s H fp pn)) (hts:ts.length≤1)
  (I2:Inv X pins σ H s) (T:Turn X.prog X.w X.K tg J fp it tn) (st2:tn 0 s.heap) (f2:∀b∈fp,FpOk X pins H b) {Q:VK}
  (hw:∀C s H2 fp pn,ZcP J (gF C s H2 fp pn) (ttF C s H2 fp pn) (teF C s H2 fp pn) own cap σ Q H)
  {R:Value→Addr→Result→Shared→Prop}
  (fin:∀(D C:Addr) (H':Hp) (s':Shared) (m:Str→Option Value),s.heap.objs.size≤C→s'.heap.Ns C m→H' C=none →
   (∀h',Heap.SameBut C s'.heap h'→Inv X pins σ H' { s' with heap:=h' })→Q (.ref D) H'→R (.ref D) C (.ok .next) s') :
  wpAny (model X.prog X.w) X.A (newList []) (fun acc s₃=>wpAny (model X.prog X.w) X.A (newFunctionEnv scope X.env.globals cl [] X.env.qual none .none (some X.env)) (fun cenv s₄ =>
   codeAny (model X.prog X.w) X.A (.compStart (.ListComp elt [⟨tg,iter,ts,0⟩] scope pos) 0 (.ref it) acc { cenv with scope:=relabel scope X.env }) (R acc cenv.locals) s₄) E s₃) E s :=
 ZhB (xf:=fun _ _ _ _ _ _=>False) O hc hgF htF heF hts I2 T st2 f2 hw fin fun _ _ _ _ _ _ z=>z.elim
theorem ZjZ{elt iter:Expr}{pos:Pos}{wi:TI}{ts:List Expr}{g:Fam TG}{tt:Fam TT}{te:Fam TE}(hi:PI X tg iter wi)(O:ZaG X own cap scope cl)(hc:X.calm=true)
  (hg:∀C s H fp pn,PG (ZaN X (own++cap.map (·.1)) scope cl C s H fp pn) tg (g C s H fp pn)) (ht:∀C s H fp pn,PTs (ZaN X (own++cap.map (·.1)) scope cl C s H fp pn) ts (tt C s H fp pn)) (he:∀C s H fp pn,PE (ZaN X (own++cap.map (·.1)) scope cl C s H fp pn) elt (te C s H fp pn)) (hts:ts.length≤1)
  (hs:∀x,foldedSetIterable iter X.env x=pure x:=by intro _;rfl):PE X (.ListComp elt [⟨tg,iter,ts,0⟩] scope pos) (Zef wi g tt te own cap):=by
 intro pins s σ H Q I h
 rw [eval_ListComp]
 refine wpAny_comprehension_free (use:=none) rfl hs O.clos O.kind O.locals (thn (hi pins s σ H _ I h) fun xv s₁ h₁=>thn h₁ fun itv s₂ h₂=>?_)
 obtain ⟨it,fp,tn,J,H2,rfl,I2,T,st2,f2,hw⟩:=h₂
 refine Zix (R:=fun acc C=>compPost (model X.prog X.w) X.A X.xe none (EP X pins σ Q) acc C) O hc hg ht he hts I2 T st2 f2 hw ?_
 intro D C H' s' m hC hn hH IV q
 exact ⟨m,hn,fun h' sb=>⟨.ref D,H',IV h' sb,rfl,q⟩⟩
theorem Zi0{elt iter:Expr}{pos pos' spos:Pos}{wi:TI}{ts:List Expr}{g:Fam TG}{tt:Fam TT}{te:Fam TE}{i:Nat}{x:Str}(hN:X.N.Nodup)(hix:X.N[i]?=some x)(hx:Loc X.env.scope x)(hi:PI X tg iter wi)(O:ZaG X own cap scope cl)(hc:X.calm=true)
  (hg:∀C s H fp pn,PG (ZaN X (own++cap.map (·.1)) scope cl C s H fp pn) tg (g C s H fp pn)) (ht:∀C s H fp pn,PTs (ZaN X (own++cap.map (·.1)) scope cl C s H fp pn) ts (tt C s H fp pn)) (he:∀C s H fp pn,PE (ZaN X (own++cap.map (·.1)) scope cl C s H fp pn) elt (te C s H fp pn)) (hts:ts.length≤1)
  (hsw:swapsWith (.ListComp elt [⟨tg,iter,ts,0⟩] scope pos) (some (.Name x pos')) spos.line X.env=pure true:=by rfl)
  (hs:∀x,foldedSetIterable iter X.env x=pure x:=by intro _;rfl)
  (hf:X.fn x=true∨X.env.scope.names.lookup x=some .local:=by first | exact .inl rfl | exact .inr rfl | assumption):PS X (.Assign [.Name x pos'] (.ListComp elt [⟨tg,iter,ts,0⟩] scope pos) spos) (tAsg (Zef wi g tt te own cap) (ZeE i)):=by
 intro pins s σ H D I h
 rw [exec_Assign_Name_used _ _ _ _ hsw]
 refine wpAny_bind (wpAny_standAt (wpAny_bind ?_))
 show wpAny _ X.A (do let _ ←comprehension (.ListComp elt [⟨tg,iter,ts,0⟩] scope pos) scope X.env _ (newList []) false (eval iter X.env) (some (assign (.Name x pos') X.env))) _ _ s
 refine wpAny_bind (wpAny_mono (wpAny_comprehension_free (use:=some (assign (.Name x pos') X.env)) (Q:=fun _ s'=>SP X pins D .next s') rfl hs O.clos O.kind O.locals
  (thn (hi pins s σ H _ I h) fun xv s₁ h₁=>thn h₁ fun itv s₂ h₂=>?_)) (fun _ s' hq=>wpAny_pure (wpAny_pure hq)) fun _ _ e=>e)
 obtain ⟨it,fp,tn,J,H2,rfl,I2,T,st2,f2,hw⟩:=h₂
 refine Zix (Q:=fun x H1=>ZeE i x σ H1 D.nx) (R:=fun acc C=>compPost (model X.prog X.w) X.A X.xe (some (assign (.Name x pos') X.env)) (fun _ s'=>SP X pins D .next s') acc C) O hc hg ht he hts I2 T st2 f2 hw ?_
 intro A C H' s' m hC hn hH IV q
 show wpAny _ X.A (assign (.Name x pos') X.env (.ref A)) _ _ _
 have I3:Inv X pins σ H' s':=IV s'.heap (Heap.SameBut.refl ..)
 obtain ⟨oc,es,ep,ho,hd,hk⟩:=id hn
 have neL:C≠X.env.locals:=Nat.ne_of_gt (Nat.lt_of_lt_of_le I2.lt hC)
 have neF:C∉X.fs:=I2.nofs hC
 have I4:Inv X (pins++[(C,oc)]) σ H' s':=I3.pins_of fun p hp=>by
  rcases List.mem_append.mp hp with z | z
  ·exact I3.pin p (List.mem_append_right _ z)
  ·have z':p=(C,oc):=by simpa using z
   subst z'
   exact ⟨ho,hH,neL,neF,fun v e=>by rw [hd] at e;cases e⟩
 refine wpAny_assign_Name (Zeo I4 hN hix hx (v:=.ref A) rfl (fun s5 I5=>?_) hf)
 have ho5:=(I5.pin (C,oc) (List.mem_append_right _ (List.mem_append_right _ (by simp)))).1
 refine ⟨m,⟨oc,es,ep,ho5,hd,hk⟩,fun h' sb=>⟨_,H',?_,q⟩⟩
 refine (I5.unpinned (pl:=[(C,oc)])).turned (t':=s5.toks) (it:=C) (fun b o hb e=>sb.extBut b o hb e) hH neL (.inr (Nat.le_trans I2.sz hC)) (fun y c e=>?_) (fun p hp=>?_)
 ·obtain ⟨v,o,hc',_⟩:=I2.cell y c e
  exact Nat.ne_of_lt (Nat.lt_of_lt_of_le (Heap.lt_size hc') hC)
 ·exact Nat.ne_of_lt (Nat.lt_of_lt_of_le (Heap.lt_size (I2.pin p hp).1) hC)
end
def ZeZ(scope out:Scope):List (Str×NameKind):=scope.names.map fun (n,k)=>if (k==.free&&out.kind==.function&&out.names.lookup n==some .cell) then (n,.cell) else (n,k)
def ZjX(scope out:Scope)(cn:List Str):Bool :=
 scope.names.all (fun y=>y.2 != .cell||!cn.contains y.1)&&scope.names.all (fun y=>y.2 != .local||scope.names.lookup y.1==some .local)&&(ZeZ scope out).all (fun y=>!(y.2==.cell||y.2==.free)||cn.contains y.1||scope.names.contains (y.1,.cell))&&cn.all (fun n=>out.names.lookup n==some .cell&&(ZeZ scope out).lookup n==some .cell)
def ZjN(X:Cx):List (Str×Addr)→Prop
 | []=>True
 | p::r=>X.env.cells.lookup p.1=some p.2∧ZjN X r
theorem ZjN.mem{X:Cx}:∀{cl:List (Str×Addr)} {p:Str×Addr},ZjN X cl→p∈cl→X.env.cells.lookup p.1=some p.2
 | _::_,_,h,.head _=>h.1
 | _::_,_,h,.tail _ m=>ZjN.mem h.2 m
def CapN(X:Cx):List (Str×Nat)→Prop
 | []=>True
 | p::r=>X.N[p.2]?=some p.1∧CapN X r
theorem ZfE{α:Type}{x:Str}:∀{l:List (Str×α)},x∈l.map (·.1)→∃c,l.lookup x=some c
 | [],h=>by simp at h
 | (y,c)::r,h=>by
  by_cases e:x=y
  ·subst e;exact ⟨c,by simp⟩
  ·have h':x∈r.map (·.1):=by
    rcases List.mem_map.mp h with ⟨p,hp,rfl⟩
    rcases List.mem_cons.mp hp with rfl | hp
    ·exact absurd rfl e
    ·exact List.mem_map.mpr ⟨p,hp,rfl⟩
   obtain ⟨d,hd⟩:=ZfE (l:=r) h'
   exact ⟨d,by rw [List.lookup_cons,beq_false_of_ne e];exact hd⟩
theorem ZaG.of{X:Cx}{own:List Str}{cap:List (Str×Nat)}{scope:Scope}{cl:List (Str×Addr)}(clos:closureFor scope X.env=pure cl)(kind:scope.kind=.function)(chk:ZjX scope X.env.scope (cap.map (·.1))=true)
  (names:cl.map (·.1)=cap.map (·.1)) (sub:ZjN X cl) (capn:CapN X cap):ZaG X own cap scope cl:=by
 unfold ZjX at chk
 simp only [Bool.and_eq_true,List.all_eq_true] at chk
 obtain ⟨⟨⟨h1,h2⟩,h3⟩,h4⟩:=chk
 have sub':∀x c,cl.lookup x=some c→X.env.cells.lookup x=some c:=fun x c e=>sub.mem (PySem.mem_of_lookup e)
 have capk:∀(l:List (Str×Nat)),(∀p∈l,p.1∈cap.map (·.1))→CapN X l→Zjl X (relabel scope X.env) cl l:=by
  intro l
  induction l with
  | nil=>exact fun _ _=>trivial
  | cons p r ih =>
   intro hm hn
   have hp:=hm p List.mem_cons_self
   have hq:=h4 p.1 hp
   have e1:X.env.scope.names.lookup p.1=some .cell:=by simpa using hq.1
   have e2:(ZeZ scope X.env.scope).lookup p.1=some .cell:=by simpa using hq.2
   obtain ⟨c,hc⟩:=ZfE (l:=cl) (x:=p.1) (by rw [names];exact hp)
   exact ⟨⟨hn.1,e1,e2,c,hc,sub' _ _ hc⟩,ih (fun q hq=>hm q (List.mem_cons_of_mem _ hq)) hn.2⟩
 refine ⟨clos,kind,fun x c hm y hy hk=>?_,fun y hy e=>?_,fun x c hm=>sub.mem hm,fun k x hx=>?_,capk cap (fun p hp=>List.mem_map.mpr ⟨p,hp,rfl⟩) capn⟩
 ·have:=h1 y hy
  rw [hk] at this
  rintro rfl
  have hc:y.1∈cap.map (·.1):=by rw [←names];exact List.mem_map.mpr ⟨_,hm,rfl⟩
  simp at this
  simp at hc
  obtain ⟨a,ha⟩:=hc
  exact this a ha
 ·have:=h2 y hy
  rw [e] at this
  simpa using this
 ·have fin:∀k',(ZeZ scope X.env.scope).lookup x=some k'→(k'=.cell∨k'=.free)→∃c,(PySem.cellsFrom k scope.names cl).lookup x=some c:=by
   intro k' e hk
   have:=h3 _ (PySem.mem_of_lookup e)
   refine Option.isSome_iff_exists.mp (Zeu scope.names k cl ?_)
   have this':x∈cap.map (·.1)∨(x,NameKind.cell)∈scope.names:=by
    rcases hk with rfl | rfl
    ·simpa using this
    ·simpa using this
   rcases this' with z | z
   ·obtain ⟨c,hc⟩:=ZfE (l:=cl) (x:=x) (by rw [names];exact z)
    exact .inl (by rw [hc];rfl)
   ·exact .inr z
  rcases hx with e | e
  ·exact fin _ e (.inl rfl)
  ·exact fin _ e (.inr rfl)
theorem Zcd.there{P:Program}{w:World}{H:Hp}{h:Heap}{a:Addr}{o:HO}(x:Zcd P w H h a o):∃ob,h.get? a=some ob:=by
 cases o with
 | lst xs=>obtain ⟨_,_,_,_,e⟩:=x;exact ⟨_,e⟩
 | tup xs=>obtain ⟨_,_,_,o,e,_⟩:=x;exact ⟨_,e⟩
 | dK kvs=>obtain ⟨_,_,_,_,o,_,_,e,_⟩:=x;exact ⟨_,e⟩
 | dT kvs=>obtain ⟨_,_,_,_,o,_,_,e,_⟩:=x;exact ⟨_,e⟩
 | set S n=>obtain ⟨o,_,_,_,e,_⟩:=x;exact ⟨_,e⟩
 | ins C dx fs=>obtain ⟨_,_,_,e,_⟩:=x;exact ⟨_,e⟩
 | own y=>obtain ⟨_,e⟩:=x;exact ⟨_,e⟩
 | xd fs=>obtain ⟨_,⟨_,_,_,e,_⟩,_⟩:=x;exact ⟨_,e⟩
 | rng lo hi=>obtain ⟨_,_,_,e⟩:=x;exact ⟨_,e⟩
 | frz ob u=>obtain ⟨e,_⟩:=x;exact ⟨_,e⟩
 | tbl ps=>exact ⟨_,(show h.get? a=some _ from x)⟩
 | met f y=>exact ⟨_,(show h.get? a=some _ from x)⟩
 | ext φ=>obtain ⟨_,⟨_,e⟩,_⟩:=x;exact ⟨_,e⟩
theorem HOk.free{P:Program}{w:World}{H:Hp}{h:Heap}(x:HOk P w H h){a:Addr}(e:h.get? a=none):H a=none:=by
 cases q:H a with
 | none=>rfl
 | some o =>
  obtain ⟨ob,z⟩:=(x a o q).there
  rw [e] at z;cases z
structure Fly(P:Program)(w:World)(l:List Env)(H H':Hp)(s s':Shared)(x:Addr)(cls:Value):Prop where
 os:s'.os=s.os
 bare:AllBare s'.gens
 un:Un (frs l) [] H H' s.heap s'.heap
 hok:HOk P w H' s'.heap
 frf:∀b∈frs l,H' b=none
 free:H' x=none
 ex:∃(B:Heap) (a0:Value),Heap.FlyingW B l x cls a0 s'.heap∧∀b o,s'.heap.get? b=some o→(H' b≠none∨∃o',s.heap.get? b=some o')→b∉frs l→B.get? b=some o
theorem Zmd{P:Program}{w:World}{l l':List Env}{H H':Hp}{s s':Shared}{x:Addr}{cls a0:Value}{B h':Heap}(os:s'.os=s.os)(bare:AllBare s'.gens)(un:Un (frs l) [] H H' s.heap s'.heap)(hok:HOk P w H' s'.heap)
  (frf:∀b∈frs l,H' b=none) (nf:∀b∈frs l,∃o,s'.heap.get? b=some o∧∀vs,o.data≠.fields vs)
  (cov:∀b o,s'.heap.get? b=some o→(H' b≠none∨∃o',s.heap.get? b=some o')→b∉frs l→B.get? b=some o)
  (sub:∀b∈frs l',b∈frs l) (new:∀b∈frs l,b∉frs l'→s.heap.get? b=none) (fl:Heap.FlyingW B l' x cls a0 h') (sm:s'.heap.UpToSlots h') (free:H' x=none) :
  Fly P w l' H H' s { s' with heap:=h' } x cls:=by
 have stay:∀b o,s'.heap.get? b=some o→(H' b≠none∨∃o',s.heap.get? b=some o')→b∉frs l→h'.get? b=some o:=fun b o e q hb=>fl.1 b o (cov b o e q hb)
 have out:∀{b:Addr} {o:Obj},s.heap.get? b=some o→b∉frs l'→b∉frs l:=fun {b o} e hb z=>by
  rw [new b z hb] at e;cases e
 refine ⟨os,bare,⟨fun b o e n hb hx=>?_,fun b o e n hb hx=>?_,un.free,fun b o e hx=>?_,un.tups,un.frzs,un.tbls⟩,fun a o e=>?_,fun b hb=>frf b (sub b hb),free,B,a0,fl,fun b o e q hb=>?_⟩
 ·exact stay b o (un.keep b o e n (out e hb) hx) (.inr ⟨o,e⟩) (out e hb)
 ·obtain ⟨sl,q⟩:=un.slot b o e n (sub b hb) hx
  obtain ⟨o1,q1,d1⟩:=nf b (sub b hb)
  rw [q] at q1;cases q1
  obtain ⟨sl',q2⟩:=sm b _ q d1
  exact ⟨sl',q2⟩
 ·obtain ⟨o',q⟩:=un.there b o e hx
  by_cases hb:b∈frs l
  ·obtain ⟨o1,q1,d1⟩:=nf b hb
   obtain ⟨sl',q2⟩:=sm b _ q1 d1
   exact ⟨_,q2⟩
  ·exact ⟨o',stay b o' q (.inr ⟨o,e⟩) hb⟩
 ·refine (hok a o e).stay (fun b u hb q=>?_) (fun _ q=>q) fun _ _ q=>q
  have tr:H' b≠none:=by
   rcases hb with rfl | hb
   ·rw [e];simp
   ·rw [hb];simp
  exact stay b u q (.inl tr) fun z=>tr (frf b z)
 ·have hb':b∉frs l:=by
   intro z
   rcases q with q | ⟨o',q⟩
   ·exact q (frf b z)
   ·exact out q hb z
  have ⟨o1,q1⟩ : ∃o1,s'.heap.get? b=some o1:=by
   rcases q with q | ⟨o',q⟩
   ·cases z:H' b with
    | none=>exact absurd z q
    | some u=>exact (hok b u z).there
   ·exact un.there b o' q (by simp)
  have c:=cov b o1 q1 q hb'
  have z:=fl.1 b o1 c
  have e':h'.get? b=some o:=e
  rw [e'] at z;cases z
  exact c
section
variable{X:Cx}{pins:List (Addr×Obj)}{σ:St}{H H':Hp}{s s':Shared}{x:Addr}{cls:Value}
theorem Inv.unStack(I:Inv X pins σ H s)(hex:X.ex=[])(hfs:∀b∈X.fs,b∈frs X.stack):Un (frs X.stack) [] X.H₀ H X.s₀.heap s.heap:=I.base.mono hfs (by rw [hex];exact fun _ z=>z)
theorem Inv.sub(I:Inv X pins σ H s):∀b∈X.fs,b∈frs X.stack:=fun b hb=>by
 rcases I.ok.stk with e | ⟨e,hf⟩
 ·rw [e];exact hb
 ·rw [e]
  unfold frs
  rw [List.filterMap_cons,hf]
  exact List.mem_cons_of_mem _ hb
theorem Inv.flyOut(I:Inv X pins σ H s)(hex:X.ex=[])(F:Fly X.prog X.w X.stack H H' s s' x cls){B h':Heap}{a0:Value}(fl0:Heap.FlyingW B X.stack x cls a0 s'.heap)
  (cov:∀b o,s'.heap.get? b=some o→(H' b≠none∨∃o',s.heap.get? b=some o')→b∉frs X.stack→B.get? b=some o) (fl:Heap.FlyingW B X.outer x cls a0 h') (sm:s'.heap.UpToSlots h') :
  Fly X.prog X.w X.outer X.H₀ H' X.s₀ { s' with heap:=h' } x cls:=by
 refine Zmd (F.os.trans I.os) F.bare ((I.unStack hex I.sub).trans F.un) F.hok F.frf (fun b hb=>(fl0.2.2.1.mem hb).2) (fun b o e q hb=>cov b o e (q.imp id fun ⟨o',z⟩=>I.base.there b o' z (by rw [hex];simp)) hb) I.sub (fun b h1 h2=>?_) fl sm F.free
 rcases List.mem_cons.mp (I.stkSub b h1) with e | e
 ·rw [e];exact Heap.get?_none_of_le I.ok.above
 ·exact absurd e h2
end
def CXR(P:Program)(w:World):CXT:=fun outer H s E e s'=>∃(x:Addr) (cls:Value) (H':Hp),e=.ref x∧Fly P w outer H H' s s' x cls∧E cls none H'
section
variable{P:Program}{w:World}{K:W.Frag}{mg:Str→Option Value}{base:Heap}{N:List Str}{qual:Str}{scope:Scope}{f:Addr}{cd:Value}{A:Around}{outer:List Env}{s₀:Shared}{H₀:Hp}{E:XK}
theorem Zah:Zch (CXR P w) (cxOf (CXR P w) P w K mg base N qual scope f cd A outer s₀ H₀ E) E:=by
 intro pins σ H s e s' I h
 obtain ⟨x,cls,H',rfl,F,q⟩:=h
 obtain ⟨B,a0,fl,cov⟩:=F.ex
 show wpAny (model P w) (A.deeper (envOfC qual scope s₀.heap.objs.size f cd)) (leaving (envOfC qual scope s₀.heap.objs.size f cd) (.ref x)) _ _ s'
 exact wpAny_leaves_onW I.ok.frames rfl fl fun h' fl' sm=>⟨x,cls,H',rfl,I.flyOut rfl F fl cov fl' sm,q⟩
end
abbrev ZgI:List Value:=[.type "ValueError", .type "Exception", .type "BaseException", .type "object"]
theorem ZoN{K:W.Frag}{h₀:Heap}{mg:Str→Option Value}{x:Str}{C:Addr}{bmB:List Value}{newId:String}(X:K.In h₀)(m:mg x=some (.ref C))(q:W.excIn K C bmB newId=true):OwnCls x C bmB newId mg h₀:=by
 refine ⟨m,?_⟩
 unfold W.excIn at q
 split at q
 ·rename_i dd cd sl ho
  split at q
  ·rename_i C' bm k0 k1 k2 k3 n k5 hm hs
   simp only [Bool.and_eq_true,beq_iff_eq,Bool.not_eq_true'] at q
   obtain ⟨⟨⟨⟨⟨rfl,rfl⟩,hdel⟩,ht⟩,hok⟩,hni⟩:=q
   obtain ⟨nm,bs,mro,ns,qn,hd,sn,sub,ab,col,del⟩:=cd
   dsimp only at hm hdel hok hni
   subst hm hdel
   have hsl:sl=#[k0,k1,k2,k3,some (.builtin n),k5]:=by
    obtain ⟨l⟩:=sl
    simp only at hs
    rw [hs]
   subst hsl
   exact ⟨bm,ns,nm,qn,bs,hd,sn,sub,ab,col,dd,k0,k1,k2,k3,k5,_,X _ _ ho,.of_isNs (W.isNs_of_in X hok),W.nsMap_none_of_in X hok hni,W.tail_of_in X ht⟩
  ·cases q
 ·cases q
section
variable{X:Cx}{pins:List (Addr×Obj)}{σ:St}{H:Hp}{s:Shared}
theorem Inv.flyMade(I:Inv X pins σ H s)(hex:X.ex=[])(hst:X.stack=X.env::X.outer)(hfr:X.env.frame=some X.env.locals){x:Addr}{cls:Value}{args:List Value}{s1:Shared}{h1:Heap}(e1:s1={ s with heap:=h1,toks:=s1.toks })(hx:Heap.MadeExcOf s.heap h1 x cls args)
  {Q:Unit→Shared→Prop} {E:Value→Shared→Prop} (k:∀s2,Fly X.prog X.w X.outer X.H₀ H X.s₀ s2 x cls→Q () s2):wpAny (model X.prog X.w) X.A (leaving X.env (.ref x)) Q E s1:=by
 have hin:∀env∈X.stack,∀b,env.frame=some b→b∈frs X.stack:=fun env he b hb=>List.mem_filterMap.mpr ⟨env,he,hb⟩
 have hh1:s1.heap=h1:=by rw [e1]
 refine wpAny_leaves_madeW (base:=W.hideAll s.heap (frs X.stack)) (h:=s.heap) (outer:=X.outer) (by rw [←hst];exact I.ok.frames) hfr (fun b o q=>W.of_hideAll _ q) (by rw [←hst];exact W.funFrames_hide I.stack hin) (by rw [hh1];exact hx) fun h2 t fl _ _ sm=>?_
 refine k _ ?_
 have F:Fly X.prog X.w X.outer X.H₀ H X.s₀ { s with heap:=h2 } x cls:=by
  refine Zmd (B:=W.hideAll s.heap (frs X.stack)) I.os I.bare (I.unStack hex I.sub) I.hok I.stkFree (fun b hb=>(I.stack.mem hb).2) (fun b o e _ hb=>W.hideAll_get _ e hb) I.sub (fun b h1 h2=>?_) fl ((Heap.UpToSlots.of_keeps hx.keeps).trans (by rw [←hh1];exact sm)) (I.hok.free hx.new)
  rcases List.mem_cons.mp (I.stkSub b h1) with e | e
  ·rw [e];exact Heap.get?_none_of_le I.ok.above
  ·exact absurd e h2
 refine ⟨?_,?_,F.un,F.hok,F.frf,F.free,F.ex⟩
 ·rw [e1];exact I.os
 ·rw [e1];exact I.bare
end
section
variable{P:Program}{w:World}{K:W.Frag}{mg:Str→Option Value}{base:Heap}{N:List Str}{qual:Str}{scope:Scope}{f:Addr}{cd:Value}{A:Around}{outer:List Env}{s₀:Shared}{H₀:Hp}{E:XK}
def ZmA(E:XK)(C:Addr)(te:TA):TS:=fun _ σ H=>te σ H fun vs H1=>vs.length≤1000∧E (.ref C) none H1
theorem ZlX{x:Str}{C:Addr}{np cpos pos:Pos}{e:Expr}{es:List Expr}{t:TA}(hg:Gl (cxOf (CXR P w) P w K mg base N qual scope f cd A outer s₀ H₀ E) x)(hm:mg x=some (.ref C))(hq:W.excIn K C ZgI "ValueError.__new__"=true)
  (ha:PA (cxOf (CXR P w) P w K mg base N qual scope f cd A outer s₀ H₀ E) (e::es) t) (hd:(x==("__debug__" : Str))=false:=by decide)
  (he:starEach (e::es) (cxOf (CXR P w) P w K mg base N qual scope f cd A outer s₀ H₀ E).env=(false,eval e (cxOf (CXR P w) P w K mg base N qual scope f cd A outer s₀ H₀ E).env)::starEach es (cxOf (CXR P w) P w K mg base N qual scope f cd A outer s₀ H₀ E).env:=by rfl)
  (hpl:(backTo cpos (starEach es (cxOf (CXR P w) P w K mg base N qual scope f cd A outer s₀ H₀ E).env)).any (·.1)=false:=by rfl) :
  PS (cxOf (CXR P w) P w K mg base N qual scope f cd A outer s₀ H₀ E) (.Raise (some (.Call (.Name x np) (e::es) [] cpos)) none pos) (ZmA E C t):=by
 intro pins s σ H D I h
 obtain ⟨tl,Nn,nm,q,bs,hdct,sn,sub,ab,col,dd,k0,k1,k2,k3,k5,mN,hC,hN,hni,T⟩:=(ZoN I.mod.kin hm hq).obj
 refine wpAny_Raise_call_subU (C:=C) (nm:=nm) (q:=q) (N:=Nn) (bs:=bs) (bm:=tl) (hdct:=hdct) (sn:=sn) (sub:=sub) (ab:=ab) (col:=col) (dd:=dd) (k0:=k0) (k1:=k1) (k2:=k2) (k3:=k3) (k5:=k5)
  PySem.F.excBase_ValueError (bmB:=ZgI) (by decide +kernel) PySem.F.excBase_ValueError (mN:=mN) (T.hasType PySem.F.excBase_ValueError.hasBase) (I.ok.hd rfl) (by rw [he];show (false||(backTo cpos (starEach es _)).any (·.1))=false;rw [hpl];rfl) hni (ZgU I hg hm ⟨rfl,?_⟩ hd)
 have hw:=ha cpos pins s σ H _ I h
 rw [he] at hw ⊢
 refine Calls.evalArgs_plain (wpAny_mono hw (fun us s2 z=>?_) fun _ _ y=>y)
 obtain ⟨vs,H2,I2,rv,hl,q2⟩:=z
 refine ⟨rfl,by rw [←rv.length];exact Nat.le_of_lt (Zj7 hl),I2.bk _ _ hC,hN.keeps I2.bk,T.keeps I2.bk,fun h' ex hx=>?_⟩
 exact I2.flyMade rfl rfl rfl rfl hx fun s3 F=>⟨ex,.ref C,H2,rfl,F,q2⟩
end
def ExcAt(a:Addr)(C:Value)(h:Heap):Prop:=∃ob,h.get? a=some ob∧ob.cls=C
def exO(a:Addr)(C:Value):HO:=.ext (ExcAt a C)
end L2
namespace L2
open PySem PySem.Spec PyProof.Rows PySem.Calls
section
open PySem.Builtin PySem.Builtin.ObjectAttr PySem.Builtin.Getset_descriptor PySem.W
variable{prog:Program}{w:World}{A:Around}{E:Value→Shared→Prop}{s:Shared}{K:W.Frag}{x D:Addr}{name:Str}{M:Model}{h:Heap}
end
end L2
namespace L2
open PySem PySem.Spec PyProof.Rows
theorem Zj3(l:Addr)(items:Array Value)(n:Nat)(sl:Array (Option Value))(b:Addr)(items2:Array Value)(n2:Nat)(sl2:Array (Option Value))(hc0:items.size+items2.size≤sizeLine) :
  Meets (Builtin.«list.__add__» ⟨[.ref l,.ref b],[]⟩) (fun _ R s=>s.heap.get? l=some { cls:=.type "list", dict:=none,data:=.seq items n,slots:=sl }∧s.heap.get? b=some { cls:=.type "list", dict:=none,data:=.seq items2 n2,slots:=sl2 }∧R (.ok (.ret (Value.ref s.heap.objs.size))) { s with heap:=s.heap.push { cls:=Value.type "list", data:=Data.seq (items++items2) },toks:=s.toks }) :=
 .of_wp fun prog w A R s h=>by obtain ⟨hp,g,d,tk,os⟩:=s;obtain ⟨hl,hb,h⟩:=h;have f1:=AutoSeq1.idx_int;have f2:=AutoSeq1.sub_tuple_tuple;have f3:=AutoSeq1.sub_list_list;have f4:=AutoSeq1.sub_tuple_list;have f5:=AutoSeq1.sub_list_tuple;wp_walk using AutoSeq1.wpAny_loadPart' hl,AutoSeq1.wpAny_loadPart' hb;exact ⟨_,rfl,h⟩
section
variable{X:Cx}
theorem ZkS{pins:List (Addr×Obj)}{s:Shared}{σ:St}{H:Hp}{l b:Addr}{xs zs:List V}{Q:VK}(I:Inv X pins σ H s)(hH:SqL X.K H l xs)(hB:SqL X.K H b zs)(hz:xs.length+zs.length≤sizeLine)(q:∀p,H p=none→Q (.ref p) (upd H p (.lst (xs++zs)))) :
  wpAny (model X.prog X.w) X.A (binaryOp .Add (.ref l) (.ref b)) (EP X pins σ Q) X.xe s:=by
 obtain ⟨its,r,⟨⟨c1,d1,t1,sl1⟩,n,e,h1,h2,h3⟩,z⟩:=I.list hH
 obtain ⟨its2,r2,⟨⟨c2,d2,t2,sl2⟩,n2,e2,g1,g2,g3⟩,z2⟩:=I.list hB
 simp only at h1 h2 h3 g1 g2 g3
 subst h1 h2 h3 g1 g2 g3
 refine concat_meets ⟨_,e,rfl⟩ ⟨_,e2,rfl⟩ noFill_list_add seq_list_add F.slot_list_add F.entry_list_add (F.args_list_add_2 _ _) (Zj3 l its.toArray n sl1 b its2.toArray n2 sl2 (by rw [List.size_toArray,List.size_toArray,←r.length,←r2.length];exact hz)) ⟨e,e2,?_⟩
 have ea:its.toArray++its2.toArray=(its++its2).toArray:=by simp
 rw [ea]
 exact ⟨.ref _,_,I.lnew (t':=s.toks) (r.append r2) (by rw [List.length_append];exact hz),rfl,q _ I.fresh⟩
theorem ZlS{pins:List (Addr×Obj)}{s:Shared}{σ:St}{H:Hp}{a b:Addr}{xs ys:List V}{Q:VK}(I:Inv X pins σ H s)(ha:SqT X.K H a xs)(hb:SqT X.K H b ys)(hz:xs.length+ys.length≤sizeLine)(q0:xs=[]→Q (.ref b) H)
  (q1:xs≠[]→ys=[]→Q (.ref a) H) (q2:xs≠[]→ys≠[]→∀p,H p=none→Q (.ref p) (upd H p (.tup (xs++ys)))) :
  wpAny (model X.prog X.w) X.A (binaryOp .Add (.ref a) (.ref b)) (EP X pins σ Q) X.xe s:=by
 by_cases hx:xs=[]
 ·obtain ⟨its,r1,p1,_⟩:=I.tuple ha
  obtain ⟨its2,r2,p2,_⟩:=I.tuple hb
  have hi:its=[]:=r1.nil_iff.mpr hx
  subst hi
  obtain ⟨⟨cls,dd,data,sl⟩,ho,hc,n,hd⟩:=id p1
  obtain ⟨⟨cls2,dd2,data2,sl2⟩,ho2,hc2,n2,hd2⟩:=id p2
  simp only at hc hd hc2 hd2
  subst hc hd hc2 hd2
  exact concat_meets ⟨_,ho,rfl⟩ ⟨_,ho2,rfl⟩ noFill_tuple_add seq_tuple_add PySem.F.slot_tuple_add PySem.F.entry_tuple_add (PySem.F.args_tuple_add_2 _ _)
   (tuple_addW0 a b ([]:List Value).toArray its2.toArray n n2 dd dd2 sl sl2 rfl) ⟨ho,ho2,⟨.ref b,H,I,rfl,q0 hx⟩⟩
 ·exact ZnC pins s σ H (.ref a) (.ref b) _ _ Q I rfl rfl ⟨a,b,xs,ys,rfl,rfl,ha,hb,hx,hz,q1 hx,q2 hx⟩
end
end L2
namespace HT
open PySem PyProof.Rows
section
variable{prog:Program}{w:World}{A:Around}{E:Value→Shared→Prop}{s:Shared}
theorem ZdR{t sl:Addr}{items:Array Value}{vl vu:Value}{lo hi:Option Int}{Q:Value→Shared→Prop}(ht:IsTup s.heap t items)(hs:s.heap.IsSliceOf sl vl vu .none)(pl:IsPart vl lo)(pu:IsPart vu hi)
  (hw:sIx items.size 0 lo=0∧sIx items.size items.size hi=items.size) (h:Q (.ref t) s):wpAny (model prog w) A (getItem (.ref t) (.ref sl)) Q E s:=by
 obtain ⟨os,hos,hcs,hds⟩:=id hs
 have hTs:s.TypeIs (.ref sl) "slice" := ⟨os,hos,hcs⟩
 unfold getItem
 try with_reducible refine wpAny_holding ?_
 first | refine wpAny_bind (wpAny_pure ?_) | skip
 refine wpAny_bind (wpAny_sequenceKey ht.typeIs (by decide) ?_)
 refine wpAny_bind (wpAny_callSpecial?_slot (name:=Str.ofString "__getitem__") ht.typeIs PyProof.Rows.slot_tuple_getitem
  (wpAny_call_entry PyProof.Rows.slot_tuple_getitem ht.typeIs entry_tuple_getitem ?_ (args_tuple_getitem _ _)))
 show wpAny _ _ (Builtin.Tuple.tupleItemsOf (.ref t) >>= _) _ _ s
 refine wpAny_bind (tupleItemsOf_ ht ?_)
 refine wpAny_bind (wpAny_typeOf hTs ?_)
 rw [if_pos (by decide)]
 refine wpAny_bind (Zc1 hs pl pu ?_)
 have hyes:(((sIx items.size 0 lo:Nat):Int)==0&&(1:Int)==1&&(sIx items.size items.size hi - sIx items.size 0 lo)==items.size)=true:=by
  rw [hw.1,hw.2];simp
 show wpAny _ _ (if (((sIx items.size 0 lo:Nat):Int)==0&&(1:Int)==1&&(sIx items.size items.size hi - sIx items.size 0 lo)==items.size)=true then _ else _) _ _ s
 rw [if_pos hyes]
 first
  | exact wpAny_bind (wpAny_bind (wpAny_typeOf ht.typeIs (wpAny_pure (by rw [if_pos (by decide)];exact wpAny_bind (wpAny_rule (wpAny_pure ⟨_,rfl,wpAny_pure h⟩))))))
  | (refine wpAny_bind (m:=Builtin.Tuple.tupleIsExact _) (wpAny_bind (wpAny_typeOf ht.typeIs (wpAny_pure ?_)))
     rw [if_pos (by decide)]
     trace_state
     exact wpAny_bind (wpAny_rule (wpAny_pure ⟨_,rfl,wpAny_pure h⟩)))
end
end HT
namespace L2
open PySem PySem.Spec PyProof.Rows
end L2
namespace Dl
open PySem
inductive D where
 | non | bl (b:Bool) | int (i:Int) | str (x:Str) | ty (n:String) | cls (c:Str)
 | tup (xs:List D) | lst (xs:List D) | exc (c:Str) | ins (c:Str) (ns:List Str) (vs:List D)
inductive Res(α:Type) where
 | ok (a:α) | ex (c:Str) | bad
def Res.bind{α β:Type}:Res α→(α→Res β)→Res β
 | .ok a,f=>f a
 | .ex c,_=>.ex c
 | .bad,_=>.bad
theorem Zeq{α β:Type}(a:α)(f:α→Res β):(Res.ok a).bind f=f a:=rfl
inductive Cl where
 | no | im (d:D) | ow (ds:List D)
abbrev Ev:=List Cl
abbrev ME:=Ev→Res D
abbrev MB:=Ev→Res Bool
abbrev MA:=Ev→Res (List D)
def getC:Option Cl→Res D
 | some (.im d)=>.ok d
 | _=>.bad
def v(i:Nat):ME:=fun ρ=>getC ρ[i]?
def c(d:D):ME:=fun _=>.ok d
def o1(f:D→Res D)(a:ME):ME:=fun ρ=>(a ρ).bind f
def o2(f:D→D→Res D)(a b:ME):ME:=fun ρ=>(a ρ).bind fun x=>(b ρ).bind fun y=>f x y
def anil:MA:=fun _=>.ok []
def Zab(a:ME)(r:MA):MA:=fun ρ=>(a ρ).bind fun x=>(r ρ).bind fun xs=>.ok (x::xs)
def on(f:List D→Res D)(a:MA):ME:=fun ρ=>(a ρ).bind f
def mtp(a:MA):ME:=fun ρ=>(a ρ).bind fun xs=>.ok (.tup xs)
def mls(a:MA):ME:=fun ρ=>(a ρ).bind fun xs=>.ok (.lst xs)
def tru:D→Res Bool
 | .bl b=>.ok b
 | _=>.bad
def trb(a:ME):MB:=fun ρ=>(a ρ).bind tru
def bAnd(a b:MB):MB:=fun ρ=>(a ρ).bind fun x=>if x=true then b ρ else .ok false
def bOr(a b:MB):MB:=fun ρ=>(a ρ).bind fun x=>if x=true then .ok true else b ρ
def bNot(a:MB):MB:=fun ρ=>(a ρ).bind fun x=>.ok (!x)
def eAnd(a b:ME):ME:=fun ρ=>(trb a ρ).bind fun x=>if x=true then b ρ else .ok (.bl false)
def eOr(a b:ME):ME:=fun ρ=>(trb a ρ).bind fun x=>if x=true then .ok (.bl true) else b ρ
def eNot(a:ME):ME:=fun ρ=>(trb a ρ).bind fun x=>.ok (.bl (!x))
def ife(t:MB)(a b:ME):ME:=fun ρ=>(t ρ).bind fun x=>if x=true then a ρ else b ρ
def Zfa(a b:Int):Bool:=decide (a.natAbs<2^64)||decide (b.natAbs<2^64)||decide (a.natAbs.log2+b.natAbs.log2<100000000)
def LIM:Nat:=1000000
def dAdd:D→D→Res D
 | .int a,.int b=>.ok (.int (a+b))
 | .lst a,.lst b=>if a.length+b.length≤LIM then .ok (.lst (a++b)) else .bad
 | .tup a,.tup b=>if a.length+b.length≤LIM then .ok (.tup (a++b)) else .bad
 | .str a,.str b=>if a.length+b.length≤LIM then .ok (.str (a++b)) else .bad
 | _,_=>.bad
def ii(f:Int→Int→Res D):D→D→Res D
 | .int a,.int b=>f a b
 | _,_=>.bad
def iSub(a b:Int):Res D:=.ok (.int (a - b))
def iMul(a b:Int):Res D:=if Zfa a b=true then .ok (.int (a*b)) else .bad
def iMod(a b:Int):Res D:=if 0<b then .ok (.int (a%b)) else if b=0 then .bad else .ok (.int (a.fmod b))
def iDiv(a b:Int):Res D:=if b.natAbs.log2<9000 then (if 0<b then .ok (.int (a/b)) else if b=0 then .bad else .ok (.int (a.fdiv b))) else .bad
def iPow(a b:Int):Res D:=if 0≤b∧b≤1000000∧a.natAbs<2^64 then .ok (.int (a^b.toNat)) else .bad
def iShl(a b:Int):Res D:=if 0≤b∧b≤1000000∧a.natAbs<2^64 then .ok (.int (a*2^b.toNat)) else .bad
def iShr(a b:Int):Res D:=if 0≤b then .ok (.int (a/2^b.toNat)) else .bad
def iLt(a b:Int):Res D:=.ok (.bl (decide (a<b)))
def iLe(a b:Int):Res D:=.ok (.bl (decide (a≤b)))
def iGt(a b:Int):Res D:=.ok (.bl (decide (b<a)))
def iGe(a b:Int):Res D:=.ok (.bl (decide (b≤a)))
abbrev dSub:=ii iSub
abbrev dMul:=ii iMul
abbrev dMod:=ii iMod
abbrev dDiv:=ii iDiv
abbrev dPow:=ii iPow
abbrev dShl:=ii iShl
abbrev dShr:=ii iShr
abbrev dLt:=ii iLt
abbrev dLe:=ii iLe
abbrev dGt:=ii iGt
abbrev dGe:=ii iGe
def dNeg:D→Res D
 | .int a=>.ok (.int (-a))
 | _=>.bad
def chain(f g:D→D→Res D)(a b d:ME):ME:=fun ρ=>(a ρ).bind fun x=>(b ρ).bind fun y=>(f x y).bind fun z=>(tru z).bind fun b=>if b=true then (d ρ).bind fun u=>g y u else .ok (.bl false)
mutual
def eqD:D→D→Bool
 | .non,.non=>true
 | .bl a,.bl b=>a==b
 | .bl a,.int j=>(if a then 1 else 0)==j
 | .int i,.bl b=>i==(if b then 1 else 0)
 | .int i,.int j=>i==j
 | .str x,.str y=>x==y
 | .lst xs,.lst ys=>eqDs xs ys
 | .tup xs,.tup ys=>eqDs xs ys
 | _,_=>false
def eqDs:List D→List D→Bool
 | [],[]=>true
 | x::xs,y::ys=>eqD x y&&eqDs xs ys
 | _,_=>false
end
mutual
def plain:Nat→D→Bool
 | _,.non=>true
 | _,.bl _=>true
 | _,.int _=>true
 | _,.str x=>x.cps.all (·<0x110000)
 | k+1,.tup xs=>ZaF k xs
 | k+1,.lst xs=>ZaF k xs
 | _,_=>false
def ZaF:Nat→List D→Bool
 | _,[]=>true
 | k,x::xs=>plain k x&&ZaF k xs
end
def dEq(x y:D):Res D:=if plain 50 x&&plain 50 y then .ok (.bl (eqD x y)) else .bad
def dNe(x y:D):Res D:=if plain 50 x&&plain 50 y then .ok (.bl (!eqD x y)) else .bad
def inD(x:D)(ys:List D):Bool:=ys.any fun y=>eqD y x
def seqD:D→Res (List D)
 | .lst ys=>.ok ys
 | .tup ys=>.ok ys
 | _=>.bad
def dIn(x y:D):Res D:=(seqD y).bind fun ys=>if plain 50 x&&ZaF 50 ys then .ok (.bl (inD x ys)) else .bad
def dNin(x y:D):Res D:=(seqD y).bind fun ys=>if plain 50 x&&ZaF 50 ys then .ok (.bl (!inD x ys)) else .bad
def at_{α:Type}(xs:List α)(i:Int):Option α:=if 0≤i then xs[i.toNat]? else if -(xs.length:Int)≤i then xs[(i+xs.length).toNat]? else none
def ofO{α:Type}:Option α→Res α
 | some a=>.ok a
 | none=>.bad
def dIx:D→D→Res D
 | .lst xs,.int i=>ofO (at_ xs i)
 | .tup xs,.int i=>ofO (at_ xs i)
 | _,_=>.bad
def cutAt(n d:Nat):Option Int→Nat
 | none=>d
 | some i=>if i<0 then (i+n).toNat else min i.toNat n
def cutL(xs:List D)(lo hi:Option Int):List D:=(xs.drop (cutAt xs.length 0 lo)).take (cutAt xs.length xs.length hi - cutAt xs.length 0 lo)
def dCut(x:D)(lo hi:Option Int):Res D:=match x with
 | .lst xs=>.ok (.lst (cutL xs lo hi))
 | .tup xs=>.ok (.tup (cutL xs lo hi))
 | _=>.bad
def pno:Ev→Res (Option Int):=fun _=>.ok none
def optI:D→Res (Option Int)
 | .int i=>.ok (some i)
 | _=>.bad
def pso(a:ME):Ev→Res (Option Int):=fun ρ=>(a ρ).bind optI
def cut(a:ME)(lo hi:Ev→Res (Option Int)):ME:=fun ρ=>(a ρ).bind fun x=>(lo ρ).bind fun l=>(hi ρ).bind fun h=>dCut x l h
def bLen:List D→Res D
 | [.lst xs]=>.ok (.int xs.length)
 | [.tup xs]=>.ok (.int xs.length)
 | _=>.bad
def bAbs:List D→Res D
 | [.int i]=>.ok (.int (if i<0 then -i else i))
 | _=>.bad
def bMax:List D→Res D
 | [.int i,.int j]=>.ok (.int (if j>i then j else i))
 | _=>.bad
def bTup:List D→Res D
 | [.lst xs]=>.ok (.tup xs)
 | [.tup xs]=>.ok (.tup xs)
 | _=>.bad
def bLst:List D→Res D
 | [.lst xs]=>.ok (.lst xs)
 | [.tup xs]=>.ok (.lst xs)
 | _=>.bad
def Zid:D→Option String
 | .non=>some "NoneType"
 | .bl _=>some "bool"
 | .int _=>some "int"
 | .str _=>some "str"
 | .tup _=>some "tuple"
 | .lst _=>some "list"
 | _=>none
def isTy(t n:String):Bool:=t==n||(t == "bool"&&n == "int")
def ZiB:List String:=["int", "bool", "str", "tuple", "list", "dict"]
def bIsi:List D→Res D
 | [x,.ty n]=>if ZiB.contains n=true then (ofO (Zid x)).bind fun t=>.ok (.bl (isTy t n)) else .bad
 | _=>.bad
def bools:List D→Res (List Bool)
 | []=>.ok []
 | d::r=>match d with
  | .bl b=>(bools r).bind fun bs=>.ok (b::bs)
  | _=>.bad
def bAll:List D→Res D
 | [d]=>match d with
  | .lst xs=>(bools xs).bind fun bs=>.ok (.bl (bs.all id))
  | _=>.bad
 | _=>.bad
abbrev MI:=Ev→Res (List D)
def items:D→Res (List D)
 | .lst xs=>.ok xs
 | .tup xs=>.ok xs
 | _=>.bad
def iv(a:ME):MI:=fun ρ=>(a ρ).bind items
def Zbt(lo:Int)(n:Nat):List D:=(List.range n).map fun (k:Nat)=>D.int (lo+(k:Int))
def rng1:List D→Res (List D)
 | [.int j]=>if -1000000000≤j∧j≤1000000000 then .ok (Zbt 0 j.toNat) else .bad
 | _=>.bad
def r1(a:MA):MI:=fun ρ=>(a ρ).bind rng1
abbrev MG:=D→Ev→Res Ev
def gN(i:Nat):MG:=fun d ρ=>.ok (ρ.set i (.im d))
def imOf:Option Cl→Cl
 | some (.im d)=>.im d
 | _=>.no
def capD(ρ:Ev):List Nat→Ev
 | []=>[]
 | j::r=>imOf ρ[j]?::capD ρ r
def noA:Nat→Ev→Ev
 | 0,e=>e
 | k+1,e=>.no::noA k e
def Zao(g:MG)(t:MB)(e:ME)(ρ0:Ev):List D→Res (List D)
 | []=>.ok []
 | x::r=>(g x ρ0).bind fun ρ1=>(t ρ1).bind fun b=>if b=true then (e ρ1).bind fun y=>(Zao g t e ρ0 r).bind fun ys=>.ok (y::ys) else Zao g t e ρ0 r
def yes:MB:=fun _=>.ok true
def noEx{α:Type}:Res α→Res α
 | .ex _=>.bad
 | r=>r
def comp(it:MI)(own:Nat)(cap:List Nat)(g:MG)(t:MB)(e:ME):ME:=fun ρ=>(it ρ).bind fun xs =>
 if xs.length≤LIM then (noEx (Zao g t e (noA own (capD ρ cap)) xs)).bind fun ys=>.ok (.lst ys) else .bad
inductive Fl where
 | nx (ρ:Ev) | rt (d:D) | bk (ρ:Ev) | ct (ρ:Ev)
abbrev MS:=Ev→Res Fl
def nop:MS:=fun ρ=>.ok (.nx ρ)
def goOn(b:MS):Fl→Res Fl
 | .nx ρ=>b ρ
 | f=>.ok f
def sq(a b:MS):MS:=fun ρ=>(a ρ).bind (goOn b)
def st(i:Nat)(e:ME):MS:=fun ρ=>(e ρ).bind fun d=>.ok (.nx (ρ.set i (.im d)))
def lstO:D→Res (List D)
 | .lst xs=>.ok xs
 | _=>.bad
def stO(i:Nat)(e:ME):MS:=fun ρ=>(e ρ).bind fun d=>(lstO d).bind fun xs=>.ok (.nx (ρ.set i (.ow xs)))
def getO:Option Cl→Res (List D)
 | some (.ow xs)=>.ok xs
 | _=>.bad
def app(i:Nat)(e:ME):MS:=fun ρ=>(getO ρ[i]?).bind fun xs=>(e ρ).bind fun d=>if xs.length<LIM then .ok (.nx (ρ.set i (.ow (xs++[d])))) else .bad
def par(i j:Nat)(a b:ME):MS:=fun ρ=>(a ρ).bind fun x=>(b ρ).bind fun y=>.ok (.nx ((ρ.set i (.im x)).set j (.im y)))
def drp(e:ME):MS:=fun ρ=>(e ρ).bind fun _=>.ok (.nx ρ)
def ret(e:ME):MS:=fun ρ=>(e ρ).bind fun d=>.ok (.rt d)
def ifs(t:MB)(a b:MS):MS:=fun ρ=>(t ρ).bind fun x=>if x=true then a ρ else b ρ
def rse(c:Str)(a:MA):MS:=fun ρ=>(a ρ).bind fun _=>.ex c
def turn(k:MS):Fl→Res Fl
 | .nx ρ=>k ρ
 | .ct ρ=>k ρ
 | .bk ρ=>.ok (.nx ρ)
 | .rt d=>.ok (.rt d)
def Zb6(g:MG)(b:MS):List D→MS
 | [],ρ=>.ok (.nx ρ)
 | x::r,ρ=>(g x ρ).bind fun ρ1=>(b ρ1).bind (turn (Zb6 g b r))
def for_(it:MI)(g:MG)(b:MS):MS:=fun ρ=>(it ρ).bind fun xs=>Zb6 g b xs ρ
def whGo(t:MB)(b:MS):Nat→MS
 | 0,_=>.bad
 | n+1,ρ=>(t ρ).bind fun x=>if x=true then (b ρ).bind (turn (whGo t b n)) else .ok (.nx ρ)
def absC:Cl→Nat
 | .im (.int i)=>i.natAbs
 | _=>0
def fuel(ρ:Ev):Nat:=(ρ.map absC).sum+1
def whl(n:Ev→Nat)(t:MB)(b:MS):MS:=fun ρ=>whGo t b (n ρ) ρ
def evF:List D→Nat→Ev
 | [],k=>noA k []
 | d::r,k=>.im d::evF r (k - 1)
def ev0(n:Nat)(ds:List D):Ev:=evF ds n
theorem ZiT:∀(k:Nat) (e:Ev),noA k e=List.replicate k .no++e
 | 0,_=>rfl
 | k+1,e=>by rw [noA,ZiT k e,List.replicate_succ,List.cons_append]
theorem Zgs(ρ:Ev):∀cap:List Nat,capD ρ cap=cap.map fun j=>imOf ρ[j]?
 | []=>rfl
 | j::r=>by rw [capD,Zgs ρ r,List.map_cons]
theorem Zg7:∀(ds:List D) (n:Nat),ev0 n ds=ds.map .im++List.replicate (n - ds.length) .no
 | [],n=>by show noA n []=_;rw [ZiT];simp
 | d::r,n=>by
  have ih:=Zg7 r (n - 1)
  show .im d::ev0 (n - 1) r=_
  rw [ih,List.map_cons,List.cons_append,List.length_cons,Nat.sub_sub,Nat.add_comm 1]
def endOf:Fl→Res D
 | .rt d=>.ok d
 | .nx _=>.ok .non
 | _=>.bad
def fn(n:Nat)(b:MS)(ds:List D):Res D:=(b (ev0 n ds)).bind endOf
end Dl
namespace L2.Ds
open PySem PySem.Spec PyProof.Rows Dl
mutual
inductive Rp(K:W.Frag)(mg:Str→Option Value)(H:Hp):V→D→Prop
 | non:Rp K mg H .non .non
 | bl (b:Bool):Rp K mg H (.bl b) (.bl b)
 | int (i:Int):Rp K mg H (.int i) (.int i)
 | str (x:Str):Rp K mg H (.str x) (.str x)
 | ty (n:String):Rp K mg H (.ty n) (.ty n)
 | cls {c:Str} {C:Addr} (h:mg c=some (.ref C)):Rp K mg H (.ref C) (.cls c)
 | tup {a:Addr} {xs:List V} {ds:List D} (h:SqT K H a xs) (r:Rps K mg H xs ds):Rp K mg H (.ref a) (.tup ds)
 | lst {a:Addr} {xs:List V} {ds:List D} (h:SqL K H a xs) (r:Rps K mg H xs ds):Rp K mg H (.ref a) (.lst ds)
 | exc {c:Str} {C a:Addr} (m:mg c=some (.ref C)) (h:H a=some (exO a (.ref C))):Rp K mg H (.ref a) (.exc c)
 | ins {c:Str} {C a dx:Addr} {fs:List (Str×V)} {xs:List V} {vs:List D} (m:mg c=some (.ref C)) (h:H a=some (.ins C dx fs)) (o:H dx=some (.own a)) (e:fs.map (·.2)=xs) (r:Rps K mg H xs vs):Rp K mg H (.ref a) (.ins c (fs.map (·.1)) vs)
inductive Rps(K:W.Frag)(mg:Str→Option Value)(H:Hp):List V→List D→Prop
 | nil:Rps K mg H [] []
 | cons {x:V} {xs:List V} {d:D} {ds:List D} (h:Rp K mg H x d) (r:Rps K mg H xs ds):Rps K mg H (x::xs) (d::ds)
end
section
variable{K:W.Frag}{mg:Str→Option Value}{H H':Hp}
theorem ZaO{a:Addr}{xs:List V}(e:Same H H')(h:SqT K H a xs):SqT K H' a xs:=by
 rcases h with (h | ⟨o,h⟩) | h
 ·exact .inl (.inl (e _ _ h))
 ·exact .inl (.inr ⟨o,e _ _ h⟩)
 ·exact .inr h
mutual
theorem Rp.same(e:Same H H'):∀{x:V} {d:D},Rp K mg H x d→Rp K mg H' x d
 | _,_,.non=>.non
 | _,_,.bl b=>.bl b
 | _,_,.int i=>.int i
 | _,_,.str x=>.str x
 | _,_,.ty n=>.ty n
 | _,_,.cls h=>.cls h
 | _,_,.tup h r=>.tup (ZaO e h) (Rps.same e r)
 | _,_,.lst h r=>.lst (e.seq h) (Rps.same e r)
 | _,_,.exc m h=>.exc m (e _ _ h)
 | _,_,.ins m h o q r=>.ins m (e _ _ h) (e _ _ o) q (Rps.same e r)
theorem Rps.same(e:Same H H'):∀{xs:List V} {ds:List D},Rps K mg H xs ds→Rps K mg H' xs ds
 | _,_,.nil=>.nil
 | _,_,.cons h r=>.cons (Rp.same e h) (Rps.same e r)
end
theorem Rps.length:∀{xs:List V} {ds:List D},Rps K mg H xs ds→xs.length=ds.length
 | _,_,.nil=>rfl
 | _,_,.cons _ r=>congrArg (·+1) (Rps.length r)
theorem Rps.get:∀{xs:List V} {ds:List D} {i:Nat} {d:D},Rps K mg H xs ds→ds[i]?=some d→∃x,xs[i]?=some x∧Rp K mg H x d
 | _,_,_,_,.nil,e=>by simp at e
 | _,_,0,_,.cons h _,e=>by simp at e;subst e;exact ⟨_,rfl,h⟩
 | _,_,i+1,_,.cons _ r,e=>by
  obtain ⟨x,h1,h2⟩:=Rps.get (i:=i) r (by simpa using e)
  exact ⟨x,by simpa using h1,h2⟩
theorem Rps.app{ys:List V}{es:List D}(q:Rps K mg H ys es):∀{xs:List V} {ds:List D},Rps K mg H xs ds→Rps K mg H (xs++ys) (ds++es)
 | _,_,.nil=>q
 | _,_,.cons h r=>.cons h (Rps.app q r)
theorem Rps.rev:∀{xs:List V} {ds:List D},Rps K mg H xs ds→Rps K mg H xs.reverse ds.reverse
 | _,_,.nil=>.nil
 | _,_,.cons h r=>by
  rw [List.reverse_cons,List.reverse_cons]
  exact Rps.app (.cons h .nil) (Rps.rev r)
theorem Rps.drop:∀{xs:List V} {ds:List D} (n:Nat),Rps K mg H xs ds→Rps K mg H (xs.drop n) (ds.drop n)
 | _,_,0,r=>r
 | _,_,_+1,.nil=>.nil
 | _,_,n+1,.cons _ r=>Rps.drop n r
theorem Rps.take:∀{xs:List V} {ds:List D} (n:Nat),Rps K mg H xs ds→Rps K mg H (xs.take n) (ds.take n)
 | _,_,0,_=>.nil
 | _,_,_+1,.nil=>.nil
 | _,_,n+1,.cons h r=>.cons h (Rps.take n r)
theorem Rps.one{xs:List V}{d:D}(h:Rps K mg H xs [d]):∃x,xs=[x]∧Rp K mg H x d:=by
 cases h with | cons h r=>cases r;exact ⟨_,rfl,h⟩
theorem Rps.two{xs:List V}{d e:D}(h:Rps K mg H xs [d,e]):∃x y,xs=[x,y]∧Rp K mg H x d∧Rp K mg H y e:=by
 cases h with | cons h r=>obtain ⟨_,rfl,g⟩:=Rps.one r;exact ⟨_,_,rfl,h,g⟩
end
structure Gr(F H F' H':Hp):Prop where
 f:Same F F'
 s:Same F' H'
 o:∀a o,F a=none→H a=some o→F' a=none∧H' a=some o
theorem Gr.refl{F H:Hp}(s:Same F H):Gr F H F H:=⟨Same.refl _,s,fun _ _ h1 h2=>⟨h1,h2⟩⟩
theorem Gr.trans{F H F1 H1 F2 H2:Hp}(g:Gr F H F1 H1)(h:Gr F1 H1 F2 H2):Gr F H F2 H2:=⟨g.f.trans h.f,h.s,fun a o h1 h2=>let ⟨q1,q2⟩:=g.o a o h1 h2;h.o a o q1 q2⟩
theorem ZkZ{F H:Hp}{p:Addr}{o:HO}(s:Same F H):Same (upd F p o) (upd H p o):=fun b u e=>by
 by_cases hb:b=p
 ·subst hb;rw [Zal] at e ⊢;exact e
 ·rw [Zar hb] at e ⊢;exact s b u e
theorem Gr.new{F H:Hp}{p:Addr}(s:Same F H)(h:H p=none)(o:HO):Gr F H (upd F p o) (upd H p o) :=
 ⟨ZaP (s.free h) o,ZkZ s,fun a u h1 h2=>by
  have ne:a≠p:=Zai h2 h
  rw [Zar ne,Zar ne];exact ⟨h1,h2⟩⟩
structure Rep(K:W.Frag)(mg:Str→Option Value)(F0 H0 F H:Hp)(σ:St)(ρ:Ev):Prop where
 g:Gr F0 H0 F H
 len:σ.length=ρ.length
 im:∀(i:Nat) (d:D),ρ[i]?=some (.im d)→∃x,σ[i]?=some (some x)∧Rp K mg F x d
 ow:∀(i:Nat) (ds:List D),ρ[i]?=some (.ow ds)→∃a xs,σ[i]?=some (some (.ref a))∧H0 a=none∧F a=none∧H a=some (.lst xs)∧Rps K mg F xs ds
 ne:∀(i j:Nat) (ds es:List D) (a:Addr),ρ[i]?=some (.ow ds)→ρ[j]?=some (.ow es)→σ[i]?=some (some (.ref a))→σ[j]?=some (some (.ref a))→i=j
section
variable{K:W.Frag}{mg:Str→Option Value}{F0 H0 F H F' H':Hp}{σ:St}{ρ:Ev}
theorem Rep.gr(r:Rep K mg F0 H0 F H σ ρ)(g:Gr F H F' H'):Rep K mg F0 H0 F' H' σ ρ:=by
 refine ⟨r.g.trans g,r.len,fun i d e=>?_,fun i ds e=>?_,r.ne⟩
 ·obtain ⟨x,h1,h2⟩:=r.im i d e
  exact ⟨x,h1,h2.same g.f⟩
 ·obtain ⟨a,xs,h1,h2,h3,h4,h5⟩:=r.ow i ds e
  obtain ⟨q1,q2⟩:=g.o a _ h3 h4
  exact ⟨a,xs,h1,h2,q1,q2,h5.same g.f⟩
theorem Zbp{α:Type}{l:List α}{i j:Nat}{x y:α}(h:(l.set i x)[j]?=some y):(i=j∧y=x∧i<l.length)∨(i≠j∧l[j]?=some y):=by
 rw [List.getElem?_set] at h
 by_cases e:i=j
 ·rw [if_pos e] at h
  split at h
  ·exact .inl ⟨e,(Option.some.inj h).symm,by assumption⟩
  ·cases h
 ·rw [if_neg e] at h;exact .inr ⟨e,h⟩
theorem Zf0{α:Type}{l:List α}{i:Nat}{x:α}(h:i<l.length):(l.set i x)[i]?=some x:=by
 rw [List.getElem?_set,if_pos rfl,if_pos h]
theorem Zbw{α:Type}{l:List α}{i j:Nat}{x:α}(h:i≠j):(l.set i x)[j]?=l[j]?:=by
 rw [List.getElem?_set,if_neg h]
theorem Rep.set{x:V}{d:D}(r:Rep K mg F0 H0 F H σ ρ)(i:Nat)(h:Rp K mg F x d):Rep K mg F0 H0 F H (σ.set i (some x)) (ρ.set i (.im d)):=by
 refine ⟨r.g,by rw [List.length_set,List.length_set];exact r.len,fun j e q=>?_,fun j ds q=>?_,fun j k ds es a q1 q2 q3 q4=>?_⟩
 ·rcases Zbp q with ⟨rfl,z,l⟩ | ⟨hij,q⟩
  ·cases z
   exact ⟨x,Zf0 (by rw [r.len];exact l),h⟩
  ·rw [Zbw hij];exact r.im j e q
 ·rcases Zbp q with ⟨_,z,_⟩ | ⟨hij,q⟩
  ·cases z
  ·rw [Zbw hij];exact r.ow j ds q
 ·rcases Zbp q1 with ⟨_,z,_⟩ | ⟨h1,q1⟩
  ·cases z
  ·rcases Zbp q2 with ⟨_,z,_⟩ | ⟨h2,q2⟩
   ·cases z
   ·rw [Zbw h1] at q3
    rw [Zbw h2] at q4
    exact r.ne j k ds es a q1 q2 q3 q4
theorem Rep.own{a:Addr}{xs:List V}{ds:List D}(r:Rep K mg F0 H0 F H σ ρ)(i:Nat)(hn:H a=none)(h:Rps K mg F xs ds):Rep K mg F0 H0 F (upd H a (.lst xs)) (σ.set i (some (.ref a))) (ρ.set i (.ow ds)):=by
 have fa:F a=none:=r.g.s.free hn
 have h0a:H0 a=none:=by
  cases q:H0 a with
  | none=>rfl
  | some o =>
   cases q2:F0 a with
   | none=>rw [(r.g.o a o q2 q).2] at hn;cases hn
   | some u=>rw [r.g.f a u q2] at fa;cases fa
 have nea:∀{j:Nat} {es:List D} {b:Addr},ρ[j]?=some (.ow es)→σ[j]?=some (some (.ref b))→b≠a:=fun {j es b} q1 q2=>by
  obtain ⟨b',xs',h1,_,_,h4,_⟩:=r.ow j es q1
  rw [q2] at h1;cases h1
  exact Zai h4 hn
 refine ⟨⟨r.g.f,fun b o e=>?_,fun b o e1 e2=>?_⟩,by rw [List.length_set,List.length_set];exact r.len,fun j e q=>?_,fun j es q=>?_,fun j k es ts b q1 q2 q3 q4=>?_⟩
 ·rw [Zar (Zai e fa)];exact r.g.s b o e
 ·rw [Zar (Zai e2 h0a)];exact r.g.o b o e1 e2
 ·rcases Zbp q with ⟨_,z,_⟩ | ⟨hij,q⟩
  ·cases z
  ·rw [Zbw hij];exact r.im j e q
 ·rcases Zbp q with ⟨rfl,z,l⟩ | ⟨hij,q⟩
  ·cases z
   exact ⟨a,xs,Zf0 (by rw [r.len];exact l),h0a,fa,Zal,h⟩
  ·rw [Zbw hij]
   obtain ⟨b,ys,h1,h2,h3,h4,h5⟩:=r.ow j es q
   exact ⟨b,ys,h1,h2,h3,by rw [Zar (Zai h4 hn)];exact h4,h5⟩
 ·rcases Zbp q1 with ⟨rfl,_,l1⟩ | ⟨h1,q1⟩
  ·rcases Zbp q2 with ⟨rfl,_,_⟩ | ⟨h2,q2⟩
   ·rfl
   ·rw [Zf0 (by rw [r.len];exact l1)] at q3
    rw [Zbw h2] at q4
    cases q3
    exact absurd rfl (nea q2 q4)
  ·rcases Zbp q2 with ⟨rfl,_,l2⟩ | ⟨h2,q2⟩
   ·rw [Zf0 (by rw [r.len];exact l2)] at q4
    rw [Zbw h1] at q3
    cases q4
    exact absurd rfl (nea q1 q3)
   ·rw [Zbw h1] at q3
    rw [Zbw h2] at q4
    exact r.ne j k es ts b q1 q2 q3 q4
theorem Rep.app{i:Nat}{x:V}{d:D}{ds:List D}{a:Addr}{xs:List V}(r:Rep K mg F0 H0 F H σ ρ)(e:ρ[i]?=some (.ow ds))(e2:σ[i]?=some (some (.ref a)))(e3:H a=some (.lst xs))(e4:H0 a=none)(e5:F a=none)(hr:Rps K mg F xs ds)(h:Rp K mg F x d) :
  Rep K mg F0 H0 F (upd H a (.lst (xs++[x]))) σ (ρ.set i (.ow (ds++[d]))):=by
 have li:i<ρ.length:=(List.getElem?_eq_some_iff.mp e).1
 refine ⟨⟨r.g.f,fun b o q=>?_,fun b o q1 q2=>?_⟩,by rw [List.length_set];exact r.len,fun j u q=>?_,fun j es q=>?_,fun j k es ts b q1 q2 q3 q4=>?_⟩
 ·rw [Zar (Zai q e5)];exact r.g.s b o q
 ·rw [Zar (Zai q2 e4)];exact r.g.o b o q1 q2
 ·rcases Zbp q with ⟨_,z,_⟩ | ⟨_,q⟩
  ·cases z
  ·exact r.im j u q
 ·rcases Zbp q with ⟨rfl,z,l⟩ | ⟨hij,q⟩
  ·cases z
   exact ⟨a,_,e2,e4,e5,Zal,Rps.app (.cons h .nil) hr⟩
  ·obtain ⟨b,ys,h1,h2,h3,h4,h5⟩:=r.ow j es q
   have nb:b≠a:=by
    rintro rfl
    exact hij (r.ne i j ds es b e q e2 h1)
   exact ⟨b,ys,h1,h2,h3,by rw [Zar nb];exact h4,h5⟩
 ·have o1:∃es',ρ[j]?=some (.ow es'):=by
   rcases Zbp q1 with ⟨rfl,_,_⟩ | ⟨_,q⟩
   ·exact ⟨_,e⟩
   ·exact ⟨_,q⟩
  have o2:∃es',ρ[k]?=some (.ow es'):=by
   rcases Zbp q2 with ⟨rfl,_,_⟩ | ⟨_,q⟩
   ·exact ⟨_,e⟩
   ·exact ⟨_,q⟩
  obtain ⟨_,o1⟩:=o1
  obtain ⟨_,o2⟩:=o2
  exact r.ne j k _ _ b o1 o2 q3 q4
end
def Ans{α β:Type}(mg:Str→Option Value)(E:XK)(R:Hp→β→α→Prop)(F H:Hp)(r:Res α)(w:(β→Hp→Prop)→Prop):Prop :=
 match r with
 | .ok a=>∀Q:β→Hp→Prop,(∀F' H' b,Gr F H F' H'→R F' b a→Q b H')→w Q
 | .ex c=>∀Q:β→Hp→Prop,(∀F' H' C,Gr F H F' H'→mg c=some (.ref C)→E (.ref C) none H')→w Q
 | .bad=>True
section
variable{α β γ δ:Type}{mg:Str→Option Value}{E:XK}{R:Hp→β→α→Prop}{R':Hp→δ→γ→Prop}{F H:Hp}
theorem Ans.ret{a:α}{b:β}{w:(β→Hp→Prop)→Prop}(s:Same F H)(r:R F b a)(h:∀Q:β→Hp→Prop,Q b H→w Q):Ans mg E R F H (.ok a) w:=fun Q q=>h Q (q F H b (.refl s) r)
theorem Ans.bindE{r:Res α}{w:(β→Hp→Prop)→Prop}{k:α→Res γ}{w':β→Hp→(δ→Hp→Prop)→Prop}(h1:Ans mg E R F H r w)(h2:∀a,r=.ok a→∀F1 H1 b,Gr F H F1 H1→R F1 b a→Ans mg E R' F1 H1 (k a) (w' b H1)) :
  Ans mg E R' F H (r.bind k) (fun Q=>w fun b H1=>w' b H1 Q):=by
 cases r with
 | ok a =>
  show Ans mg E R' F H (k a) _
  have h2':=h2 a rfl
  generalize k a=r2 at h2'
  cases r2 with
  | ok d=>exact fun Q q=>h1 _ fun F1 H1 b g rb=>h2' F1 H1 b g rb Q fun F2 H2 e g2 re=>q F2 H2 e (g.trans g2) re
  | ex c=>exact fun Q q=>h1 _ fun F1 H1 b g rb=>h2' F1 H1 b g rb Q fun F2 H2 C g2 hc=>q F2 H2 C (g.trans g2) hc
  | bad=>trivial
 | ex c=>exact fun Q q=>h1 _ q
 | bad=>trivial
theorem Ans.bind{r:Res α}{w:(β→Hp→Prop)→Prop}{k:α→Res γ}{w':β→Hp→(δ→Hp→Prop)→Prop}(h1:Ans mg E R F H r w)(h2:∀F1 H1 b a,Gr F H F1 H1→R F1 b a→Ans mg E R' F1 H1 (k a) (w' b H1)) :
  Ans mg E R' F H (r.bind k) (fun Q=>w fun b H1=>w' b H1 Q):=h1.bindE fun a _ F1 H1 b g q=>h2 F1 H1 b a g q
end
def AnsS(K:W.Frag)(mg:Str→Option Value)(E:XK)(F0 H0 F:Hp)(r:Res Fl)(w:Ends→Prop):Prop :=
 match r with
 | .ok (.nx ρ)=>∀D:Ends,(∀F' H' σ',Same F F'→Rep K mg F0 H0 F' H' σ' ρ→D.nx σ' H')→w D
 | .ok (.bk ρ)=>∀D:Ends,(∀F' H' σ',Same F F'→Rep K mg F0 H0 F' H' σ' ρ→D.bk σ' H')→w D
 | .ok (.ct ρ)=>∀D:Ends,(∀F' H' σ',Same F F'→Rep K mg F0 H0 F' H' σ' ρ→D.ct σ' H')→w D
 | .ok (.rt d)=>∀D:Ends,(∀F' H' x,Gr F0 H0 F' H'→Rp K mg F' x d→D.rt x H')→w D
 | .ex c=>∀D:Ends,(∀F' H' C,Gr F0 H0 F' H'→mg c=some (.ref C)→E (.ref C) none H')→w D
 | .bad=>True
abbrev RB:Hp→Bool→Bool→Prop:=fun _ b b'=>b=b'
abbrev RO:Hp→Option Int→Option Int→Prop:=fun _ b b'=>b=b'
def SE(K:W.Frag)(mg:Str→Option Value)(E:XK)(t:TE)(m:ME):Prop:=∀F0 H0 F H σ ρ,Rep K mg F0 H0 F H σ ρ→Ans mg E (Rp K mg) F H (m ρ) (t σ H)
def STt(K:W.Frag)(mg:Str→Option Value)(E:XK)(t:TT)(m:MB):Prop:=∀F0 H0 F H σ ρ,Rep K mg F0 H0 F H σ ρ→Ans mg E RB F H (m ρ) (t σ H)
def SA(K:W.Frag)(mg:Str→Option Value)(E:XK)(t:TA)(m:MA):Prop:=∀F0 H0 F H σ ρ,Rep K mg F0 H0 F H σ ρ→Ans mg E (Rps K mg) F H (m ρ) (t σ H)
def SO(K:W.Frag)(mg:Str→Option Value)(E:XK)(t:TO)(m:Ev→Res (Option Int)):Prop:=∀F0 H0 F H σ ρ,Rep K mg F0 H0 F H σ ρ→Ans mg E RO F H (m ρ) (t σ H)
def SS(K:W.Frag)(mg:Str→Option Value)(E:XK)(t:TS)(m:MS):Prop:=∀F0 H0 F H σ ρ,Rep K mg F0 H0 F H σ ρ→AnsS K mg E F0 H0 F (m ρ) (fun D=>t D σ H)
def AnsG(K:W.Frag)(mg:Str→Option Value)(F0 H0 F:Hp)(n:Nat)(σ:St)(r:Res Ev)(w:(St→Hp→Prop)→Prop):Prop :=
 match r with
 | .ok ρ'=>∀Q:St→Hp→Prop,(∀F' H' σ',Same F F'→Rep K mg F0 H0 F' H' σ' ρ'→σ'.drop n=σ.drop n→Q σ' H')→w Q
 | _=>True
def SG(K:W.Frag)(mg:Str→Option Value)(n:Nat)(t:TG)(g:MG):Prop:=∀F0 H0 F H σ ρ x d,Rep K mg F0 H0 F H σ ρ→Rp K mg F x d→AnsG K mg F0 H0 F n σ (g d ρ) (t x σ H)
def ItOk(K:W.Frag)(mg:Str→Option Value)(F:Hp)(J:It)(ds:List D):Prop:=∀F' H',Same F F'→Same F' H'→∀i:Nat,
 (∀d,ds[i]?=some d→J.go i H'∧∀x H'',J.yld i H' x H''→∃F'',Gr F' H' F'' H''∧Rp K mg F'' x d)∧(ds.length≤i→J.stop i H')
def SI(K:W.Frag)(mg:Str→Option Value)(E:XK)(t:TI)(m:MI):Prop:=∀F0 H0 F H σ ρ,Rep K mg F0 H0 F H σ ρ→Ans mg E (ItOk K mg) F H (m ρ) (t σ H)
def OpD(K:W.Frag)(mg:Str→Option Value)(r:R2)(f:D→D→Res D):Prop:=∀(E:XK) F H x y dx dy,Same F H→Rp K mg F x dx→Rp K mg F y dy→Ans mg E (Rp K mg) F H (f dx dy) (r x y H)
def UnD(K:W.Frag)(mg:Str→Option Value)(r:V→Hp→VK→Prop)(f:D→Res D):Prop:=∀(E:XK) F H x dx,Same F H→Rp K mg F x dx→Ans mg E (Rp K mg) F H (f dx) (r x H)
def CallD(K:W.Frag)(mg:Str→Option Value)(r:List V→Hp→VK→Prop)(f:List D→Res D):Prop:=∀(E:XK) F H xs ds,Same F H→Rps K mg F xs ds→Ans mg E (Rp K mg) F H (f ds) (r xs H)
section
variable{K:W.Frag}{mg:Str→Option Value}{E:XK}{ta tb tc:TE}{ma mb mc:ME}{sa sb:TT}{na nb:MB}
theorem Rep.ss{F0 H0 F H:Hp}{σ:St}{ρ:Ev}(r:Rep K mg F0 H0 F H σ ρ):Same F H:=r.g.s
theorem se_v(i:Nat):SE K mg E (tVar i) (v i):=by
 intro F0 H0 F H σ ρ r
 unfold v getC
 split
 ·next d h =>
  obtain ⟨x,h1,h2⟩:=r.im i d h
  exact .ret r.ss h2 fun Q q=>⟨x,h1,q⟩
 ·trivial
theorem se_c{x:V}{d:D}(h:∀F,Rp K mg F x d):SE K mg E (tC x) (c d):=fun _ _ F _ _ _ r=>.ret r.ss (h F) fun _ q=>q
theorem Zk3{r:R2}{f:D→D→Res D}(hf:OpD K mg r f)(ha:SE K mg E ta ma)(hb:SE K mg E tb mb):SE K mg E (tOp r ta tb) (o2 f ma mb):=by
 intro F0 H0 F H σ ρ rr
 refine (ha F0 H0 F H σ ρ rr).bind fun F1 H1 x dx g1 rx=>?_
 refine (hb F0 H0 F1 H1 σ ρ (rr.gr g1)).bind fun F2 H2 y dy g2 ry=>?_
 exact hf E F2 H2 x y dx dy g2.s (rx.same g2.f) ry
theorem Zou{r:V→Hp→VK→Prop}{f:D→Res D}(hf:UnD K mg r f)(ha:SE K mg E ta ma):SE K mg E (tUn r ta) (o1 f ma):=by
 intro F0 H0 F H σ ρ rr
 exact (ha F0 H0 F H σ ρ rr).bind fun F1 H1 x dx g1 rx=>hf E F1 H1 x dx g1.s rx
theorem Zmw:SA K mg E tNil anil:=fun _ _ _ _ _ _ r=>.ret r.ss .nil fun _ q=>q
theorem Zn2{t:TA}{m:MA}(ha:SE K mg E ta ma)(hr:SA K mg E t m):SA K mg E (ZdA ta t) (Zab ma m):=by
 intro F0 H0 F H σ ρ rr
 refine (ha F0 H0 F H σ ρ rr).bind fun F1 H1 x dx g1 rx=>?_
 refine (hr F0 H0 F1 H1 σ ρ (rr.gr g1)).bind fun F2 H2 xs ds g2 rs=>?_
 exact .ret g2.s (.cons (rx.same g2.f) rs) fun _ q=>q
theorem Zow{r:List V→Hp→VK→Prop}{f:List D→Res D}{t:TA}{m:MA}(hf:CallD K mg r f)(ha:SA K mg E t m):SE K mg E (tCB r t) (on f m):=by
 intro F0 H0 F H σ ρ rr
 exact (ha F0 H0 F H σ ρ rr).bind fun F1 H1 x dx g1 rx=>hf E F1 H1 x dx g1.s rx
theorem Zdb{α:Type}{R:Hp→V→α→Prop}{F H:Hp}{a:α}{o:HO}{w:VK→Prop}(s:Same F H)(hr:∀p,H p=none→R (upd F p o) (.ref p) a)(h:∀Q:VK,(∀p,H p=none→Q (.ref p) (upd H p o))→w Q):Ans mg E R F H (.ok a) w :=
 fun Q q=>h Q fun p hp=>q (upd F p o) (upd H p o) (.ref p) (.new s hp o) (hr p hp)
def SAn(n:Nat)(m:MA):Prop:=∀ρ ds,m ρ=.ok ds→ds.length=n
theorem Zkp:SAn 0 anil:=fun ρ ds h=>by cases h;rfl
theorem ZkR{n:Nat}{m:MA}(h:SAn n m):SAn (n+1) (Zab ma m):=fun ρ ds e=>by
 unfold Zab at e
 cases ea:ma ρ with
 | ok x =>
  rw [ea] at e
  cases em:m ρ with
  | ok xs =>
   have e':(m ρ).bind (fun xs=>Res.ok (x::xs))=.ok ds:=e
   rw [em] at e'
   have e2:Res.ok (x::xs)=.ok ds:=e'
   cases e2
   exact congrArg (·+1) (h ρ xs em)
  | ex c =>
   have e':(m ρ).bind (fun xs=>Res.ok (x::xs))=.ok ds:=e
   rw [em] at e';cases e'
  | bad =>
   have e':(m ρ).bind (fun xs=>Res.ok (x::xs))=.ok ds:=e
   rw [em] at e';cases e'
 | ex c=>rw [ea] at e;cases e
 | bad=>rw [ea] at e;cases e
theorem ZoS{t:TA}{m:MA}{n:Nat}(ha:SA K mg E t m)(hl:SAn n m)(hn:n≤sizeLine):SE K mg E (tTup t) (mtp m):=by
 intro F0 H0 F H σ ρ rr
 have h:=ha F0 H0 F H σ ρ rr
 unfold mtp
 cases e:m ρ with
 | ok ds =>
  rw [e] at h
  exact fun Q q=>h _ fun F' H' xs g rs=>⟨by rw [rs.length,hl ρ ds e];exact hn,fun p hp=>q _ _ _ (g.trans (.new g.s hp _)) (.tup (SqT.of Zal) (rs.same (ZaP (g.s.free hp) _)))⟩
 | ex c =>
  rw [e] at h
  exact fun Q q=>h _ q
 | bad=>trivial
theorem Zp3{t:TA}{m:MA}{n:Nat}(ha:SA K mg E t m)(hl:SAn n m)(hn:n≤sizeLine):SE K mg E (tLst t) (mls m):=by
 intro F0 H0 F H σ ρ rr
 have h:=ha F0 H0 F H σ ρ rr
 unfold mls
 cases e:m ρ with
 | ok ds =>
  rw [e] at h
  exact fun Q q=>h _ fun F' H' xs g rs=>⟨by rw [rs.length,hl ρ ds e];exact hn,fun p hp=>q _ _ _ (g.trans (.new g.s hp _)) (.lst (SqL.of Zal) (rs.same (ZaP (g.s.free hp) _)))⟩
 | ex c =>
  rw [e] at h
  exact fun Q q=>h _ q
 | bad=>trivial
theorem st_b(ha:SE K mg E ta ma):STt K mg E (L2.tB ta) (trb ma):=by
 intro F0 H0 F H σ ρ rr
 refine (ha F0 H0 F H σ ρ rr).bind fun F1 H1 x dx g1 rx=>?_
 cases dx with
 | bl b=>cases rx;exact .ret g1.s rfl fun Q q=>⟨b,rfl,q⟩
 | _=>trivial
theorem Zj9(ha:SE K mg E ta ma):STt K mg E (Zd3 ta) (trb ma):=st_b ha
theorem ZoE(ha:STt K mg E sa na)(hb:STt K mg E sb nb):STt K mg E (tAnd sa sb) (bAnd na nb):=by
 intro F0 H0 F H σ ρ rr
 refine (ha F0 H0 F H σ ρ rr).bind fun F1 H1 x dx g1 rx=>?_
 cases (show x=dx from rx)
 cases x with
 | true =>
  have z:=hb F0 H0 F1 H1 σ ρ (rr.gr g1)
  simp only [if_true];exact z
 | false =>
  simp only [Bool.false_eq_true,if_false]
  exact Ans.ret (R:=RB) g1.s rfl fun Q q=>q
theorem ZqE(ha:STt K mg E sa na)(hb:STt K mg E sb nb):STt K mg E (tOr sa sb) (bOr na nb):=by
 intro F0 H0 F H σ ρ rr
 refine (ha F0 H0 F H σ ρ rr).bind fun F1 H1 x dx g1 rx=>?_
 cases (show x=dx from rx)
 cases x with
 | true =>
  simp only [if_true]
  exact Ans.ret (R:=RB) g1.s rfl fun Q q=>q
 | false =>
  have z:=hb F0 H0 F1 H1 σ ρ (rr.gr g1)
  simp only [Bool.false_eq_true,if_false];exact z
theorem Zpg(ha:STt K mg E sa na):STt K mg E (tNot sa) (bNot na):=by
 intro F0 H0 F H σ ρ rr
 refine (ha F0 H0 F H σ ρ rr).bind fun F1 H1 x dx g1 rx=>?_
 cases (show x=dx from rx)
 exact Ans.ret (R:=RB) g1.s rfl fun Q q=>q
theorem ZpI(ha:SE K mg E ta ma)(hb:SE K mg E tb mb):SE K mg E (ZnE ta tb) (eAnd ma mb):=by
 intro F0 H0 F H σ ρ rr
 have z:=(st_b ha F0 H0 F H σ ρ rr).bind (R':=Rp K mg) (k:=fun x=>if x=true then mb ρ else .ok (D.bl false)) (w':=fun c H1 Q=>if c=true then tb σ H1 Q else Q (V.bl false) H1) fun F1 H1 x dx g1 rx=>by
  cases (show x=dx from rx)
  cases x with
  | true =>
   have z:=hb F0 H0 F1 H1 σ ρ (rr.gr g1)
   simp only [if_true];exact z
  | false =>
   simp only [Bool.false_eq_true,if_false]
   exact Ans.ret (R:=Rp K mg) g1.s (.bl false) fun Q q=>q
 exact z
theorem Zqq(ha:SE K mg E ta ma)(hb:SE K mg E tb mb):SE K mg E (tOrV ta tb) (eOr ma mb):=by
 intro F0 H0 F H σ ρ rr
 have z:=(st_b ha F0 H0 F H σ ρ rr).bind (R':=Rp K mg) (k:=fun x=>if x=true then .ok (D.bl true) else mb ρ) (w':=fun c H1 Q=>if c=true then Q (V.bl true) H1 else tb σ H1 Q) fun F1 H1 x dx g1 rx=>by
  cases (show x=dx from rx)
  cases x with
  | true =>
   simp only [if_true]
   exact Ans.ret (R:=Rp K mg) g1.s (.bl true) fun Q q=>q
  | false =>
   have z:=hb F0 H0 F1 H1 σ ρ (rr.gr g1)
   simp only [Bool.false_eq_true,if_false];exact z
 exact z
theorem Zo6(ha:SE K mg E ta ma):SE K mg E (ZmQ ta) (eNot ma):=by
 intro F0 H0 F H σ ρ rr
 exact (st_b ha F0 H0 F H σ ρ rr).bind (R':=Rp K mg) (k:=fun x=>.ok (D.bl (!x))) (w':=fun c H1 Q=>Q (V.bl (!c)) H1) fun F1 H1 x dx g1 rx=>by
  cases (show x=dx from rx)
  exact Ans.ret (R:=Rp K mg) g1.s (.bl _) fun Q q=>q
theorem ZpU(hc:STt K mg E sa na)(ha:SE K mg E ta ma)(hb:SE K mg E tb mb):SE K mg E (tIf sa ta tb) (ife na ma mb):=by
 intro F0 H0 F H σ ρ rr
 refine (hc F0 H0 F H σ ρ rr).bind fun F1 H1 x dx g1 rx=>?_
 cases (show x=dx from rx)
 cases x with
 | true =>
  have z:=ha F0 H0 F1 H1 σ ρ (rr.gr g1)
  simp only [if_true];exact z
 | false =>
  have z:=hb F0 H0 F1 H1 σ ρ (rr.gr g1)
  simp only [Bool.false_eq_true,if_false];exact z
theorem Zl1{r r':R2}{f g:D→D→Res D}(hf:OpD K mg r f)(hg:OpD K mg r' g)(ha:SE K mg E ta ma)(hb:SE K mg E tb mb)(hc:SE K mg E tc mc):SE K mg E (Zkb r r' ta tb tc) (chain f g ma mb mc):=by
 intro F0 H0 F H σ ρ rr
 refine (ha F0 H0 F H σ ρ rr).bind fun F1 H1 x dx g1 rx=>?_
 refine (hb F0 H0 F1 H1 σ ρ (rr.gr g1)).bind fun F2 H2 y dy g2 ry=>?_
 refine (hf E F2 H2 x y dx dy g2.s (rx.same g2.f) ry).bind fun F3 H3 z dz g3 rz=>?_
 cases dz with
 | bl b =>
  cases rz
  show Ans mg E (Rp K mg) F3 H3 (if b=true then (mc ρ).bind fun u=>g dy u else .ok (.bl false)) _
  cases b with
  | true =>
   rw [if_pos rfl]
   have w:=(hc F0 H0 F3 H3 σ ρ ((rr.gr g1).gr (g2.trans g3))).bind (k:=fun u=>g dy u) (w':=fun u H1 Q=>r' y u H1 Q) fun F4 H4 u du g4 ru=>hg E F4 H4 y u dy du g4.s (ry.same (g3.f.trans g4.f)) ru
   generalize ((mc ρ).bind fun u=>g dy u)=res at w
   cases res with
   | ok d=>exact fun Q q=>⟨true,rfl,by simp only [if_true];exact w Q q⟩
   | ex c=>exact fun Q q=>⟨true,rfl,by simp only [if_true];exact w Q q⟩
   | bad=>trivial
  | false =>
   rw [if_neg Bool.false_ne_true]
   exact .ret g3.s (.bl false) fun Q q=>⟨false,rfl,by simp only [Bool.false_eq_true,if_false];exact q⟩
 | _=>trivial
end
section
variable{K:W.Frag}{mg:Str→Option Value}{E:XK}
theorem Zmr{r:R2}{f:Int→Int→Res D}(h:∀(E:XK) F H a b,Same F H→Ans mg E (Rp K mg) F H (f a b) (r (.int a) (.int b) H)):OpD K mg r (ii f):=by
 intro E F H x y dx dy s rx ry
 unfold ii
 split
 ·cases rx;cases ry;exact h E F H _ _ s
 ·trivial
theorem Zi7{C:Int→Int→Prop}{g:Int→Int→V}{f:Int→Int→Res D}(h:∀a b,(∃d,f a b=.ok d∧C a b∧∀F,Rp K mg F (g a b) d)∨f a b=.bad):OpD K mg (rI C g) (ii f):=by
 refine Zmr fun E F H a b s=>?_
 rcases h a b with ⟨d,e,hc,hr⟩ | e
 ·rw [e];exact .ret s (hr F) fun Q q=>⟨a,b,rfl,rfl,hc,q⟩
 ·rw [e];trivial
theorem Zhp{g:Int→Int→V}{f:Int→Int→Res D}(h:∀a b,(∃d,f a b=.ok d∧∀F,Rp K mg F (g a b) d)∨f a b=.bad):OpD K mg (rI0 g) (ii f):=by
 refine Zmr fun E F H a b s=>?_
 rcases h a b with ⟨d,e,hr⟩ | e
 ·rw [e];exact .ret s (hr F) fun Q q=>⟨a,b,rfl,rfl,q⟩
 ·rw [e];trivial
theorem ZnY:OpD K mg (rI0 fun i j=>.int (i - j)) dSub:=Zhp fun _ _=>.inl ⟨_,rfl,fun _=>.int _⟩
theorem ZpF:OpD K mg (rI0 fun i j=>.bl (decide (i<j))) dLt:=Zhp fun _ _=>.inl ⟨_,rfl,fun _=>.bl _⟩
theorem Zkt:OpD K mg (rI0 fun i j=>.bl (decide (i≤j))) dLe:=Zhp fun _ _=>.inl ⟨_,rfl,fun _=>.bl _⟩
theorem ZpA:OpD K mg (rI0 fun i j=>.bl (decide (j<i))) dGt:=Zhp fun _ _=>.inl ⟨_,rfl,fun _=>.bl _⟩
theorem Zmv:OpD K mg (rI0 fun i j=>.bl (decide (j≤i))) dGe:=Zhp fun _ _=>.inl ⟨_,rfl,fun _=>.bl _⟩
theorem Zn1:OpD K mg (rI (fun _ j=>j≠0) fun i j=>.int (i.fmod j)) dMod:=Zi7 fun a b=>by
 unfold iMod
 by_cases h1:0<b
 ·rw [if_pos h1]
  exact .inl ⟨_,rfl,by omega,fun _=>by rw [Int.fmod_eq_emod_of_nonneg a (by omega)];exact .int _⟩
 ·rw [if_neg h1]
  by_cases h2:b=0
  ·rw [if_pos h2];exact .inr rfl
  ·rw [if_neg h2];exact .inl ⟨_,rfl,h2,fun _=>.int _⟩
theorem ZmW:OpD K mg (rI Znr fun i j=>.int (i.fdiv j)) dDiv:=Zi7 fun a b=>by
 unfold iDiv
 by_cases h0:b.natAbs.log2<9000
 ·rw [if_pos h0]
  by_cases h1:0<b
  ·rw [if_pos h1]
   exact .inl ⟨_,rfl,⟨by omega,h0⟩,fun _=>by rw [Int.fdiv_eq_ediv_of_nonneg a (by omega)];exact .int _⟩
  ·rw [if_neg h1]
   by_cases h2:b=0
   ·rw [if_pos h2];exact .inr rfl
   ·rw [if_neg h2];exact .inl ⟨_,rfl,⟨h2,h0⟩,fun _=>.int _⟩
 ·rw [if_neg h0];exact .inr rfl
theorem Znw:OpD K mg (rI CPow fun i j=>.int (i^j.toNat)) dPow:=Zi7 fun a b=>by
 unfold iPow
 by_cases h:0≤b∧b≤1000000∧a.natAbs<2^64
 ·rw [if_pos h];exact .inl ⟨_,rfl,h,fun _=>.int _⟩
 ·rw [if_neg h];exact .inr rfl
theorem Znn:OpD K mg (rI CPow fun i j=>.int (i*2^j.toNat)) dShl:=Zi7 fun a b=>by
 unfold iShl
 by_cases h:0≤b∧b≤1000000∧a.natAbs<2^64
 ·rw [if_pos h];exact .inl ⟨_,rfl,h,fun _=>.int _⟩
 ·rw [if_neg h];exact .inr rfl
theorem Zog:OpD K mg (rI (fun _ j=>0≤j) fun i j=>.int (i/2^j.toNat)) dShr:=Zi7 fun a b=>by
 unfold iShr
 by_cases h:0≤b
 ·rw [if_pos h];exact .inl ⟨_,rfl,h,fun _=>.int _⟩
 ·rw [if_neg h];exact .inr rfl
theorem Znl{r:V→Hp→VK→Prop}(h:∀i H Q,Q (.int (-i)) H→r (.int i) H Q):UnD K mg r dNeg:=by
 intro E F H x dx s rx
 unfold dNeg
 split
 ·cases rx;exact .ret s (.int _) fun Q q=>h _ _ _ q
 ·trivial
def Zpk(K:W.Frag):R2:=fun x y H Q=>∃l b xs zs,x=.ref l∧y=.ref b∧SqL K H l xs∧SqL K H b zs∧xs.length+zs.length≤sizeLine∧∀p,H p=none→Q (.ref p) (upd H p (.lst (xs++zs)))
def Zpr(K:W.Frag):R2:=fun x y H Q=>∃a b xs ys,x=.ref a∧y=.ref b∧SqT K H a xs∧SqT K H b ys∧xs.length+ys.length≤sizeLine ∧
 (xs=[]→Q (.ref b) H)∧(xs≠[]→ys=[]→Q (.ref a) H)∧(xs≠[]→ys≠[]→∀p,H p=none→Q (.ref p) (upd H p (.tup (xs++ys))))
def Zqk:R2:=fun x y H Q=>∃i j:Str,x=.str i∧y=.str j∧i.length+j.length≤sizeLine∧Q (.str (i++j)) H
def ZmX(K:W.Frag):R2:=fun x y H Q=>rI0 (fun i j=>.int (i+j)) x y H Q∨Zpk K x y H Q∨Zpr K x y H Q∨Zqk x y H Q
theorem ZdI{n:Nat}(h:n≤LIM):n≤sizeLine:=Nat.le_trans h (by decide)
theorem Znc:OpD K mg (ZmX K) dAdd:=by
 intro E F H x y dx dy s rx ry
 unfold dAdd
 split
 ·cases rx;cases ry
  exact .ret s (.int _) fun Q q=>.inl ⟨_,_,rfl,rfl,q⟩
 ·next as bs =>
  by_cases h:as.length+bs.length≤LIM
  ·rw [if_pos h]
   cases rx with
   | lst ha ra =>
    cases ry with
    | lst hb rb =>
     refine Zdb s (o:=.lst _) (fun p hp=>.lst (SqL.of Zal) ((Rps.app rb ra).same (ZaP (s.free hp) _))) fun Q q=>.inr (.inl ⟨_,_,_,_,rfl,rfl,s.seq ha,s.seq hb,?_,q⟩)
     rw [ra.length,rb.length];exact ZdI h
  ·rw [if_neg h];trivial
 ·next as bs =>
  by_cases h:as.length+bs.length≤LIM
  ·rw [if_pos h]
   cases rx with
   | tup ha ra =>
    cases ry with
    | tup hb rb =>
     rename_i a xs b ys
     have hl:xs.length+ys.length≤sizeLine:=by rw [ra.length,rb.length];exact ZdI h
     intro Q q
     refine .inr (.inr (.inl ⟨a,b,xs,ys,rfl,rfl,ZaO s ha,ZaO s hb,hl,fun e=>?_,fun _ e=>?_,fun _ _ p hp=>?_⟩))
     ·subst e
      cases ra
      exact q F H _ (.refl s) (.tup hb rb)
     ·subst e
      cases rb
      rw [List.append_nil] at q
      exact q F H _ (.refl s) (.tup ha ra)
     ·exact q _ _ _ (.new s hp _) (.tup (SqT.of Zal) ((Rps.app rb ra).same (ZaP (s.free hp) _)))
  ·rw [if_neg h];trivial
 ·next a b =>
  by_cases h:a.length+b.length≤LIM
  ·rw [if_pos h]
   cases rx;cases ry
   exact .ret s (.str _) fun Q q=>.inr (.inr (.inr ⟨_,_,rfl,rfl,ZdI h,q⟩))
  ·rw [if_neg h];trivial
 ·trivial
theorem Zmh{F:Hp}{xs:List V}{ds:List D}{i:Int}{d:D}(r:Rps K mg F xs ds)(h:at_ ds i=some d):∃x,atI xs i=some x∧Rp K mg F x d:=by
 have hl:=r.length
 unfold at_ at h
 unfold atI ixN
 by_cases h0:0≤i
 ·rw [if_pos h0] at h
  obtain ⟨x,e,rx⟩:=r.get h
  have lt:i.toNat<xs.length:=(List.getElem?_eq_some_iff.mp e).1
  exact ⟨x,by rw [if_pos h0,if_pos (by omega)];exact e,rx⟩
 ·rw [if_neg h0] at h
  by_cases h1:-(ds.length:Int)≤i
  ·rw [if_pos h1] at h
   obtain ⟨x,e,rx⟩:=r.get h
   exact ⟨x,by rw [if_neg h0,if_pos (by omega),hl];exact e,rx⟩
  ·rw [if_neg h1] at h;cases h
def rIxD(K:W.Frag):R2:=fun x y H Q=>rIxL K x y H Q∨rIxT K x y H Q
theorem Zop:OpD K mg (rIxD K) dIx:=by
 intro E F H x y dx dy s rx ry
 unfold dIx
 split
 ·next ds i =>
  cases e:at_ ds i with
  | none=>trivial
  | some d =>
   cases rx with
   | lst ha ra =>
    cases ry
    obtain ⟨z,e1,rz⟩:=Zmh ra e
    exact Ans.ret s rz fun Q q=>.inl ⟨_,_,_,_,rfl,rfl,s.seq ha,e1,q⟩
 ·next ds i =>
  cases e:at_ ds i with
  | none=>trivial
  | some d =>
   cases rx with
   | tup ha ra =>
    cases ry
    obtain ⟨z,e1,rz⟩:=Zmh ra e
    exact Ans.ret s rz fun Q q=>.inr ⟨_,_,_,_,rfl,rfl,ZaO s ha,e1,q⟩
 ·trivial
theorem Zio(n d:Nat)(o:Option Int):cutAt n d o=HT.sIx n d o:=by cases o<;>rfl
theorem Zjo{F:Hp}{xs:List V}{ds:List D}(r:Rps K mg F xs ds)(lo hi:Option Int):Rps K mg F (cutV xs lo hi) (cutL ds lo hi):=by
 unfold cutV cutL
 simp only [Zio,r.length]
 exact (r.drop _).take _
def rSlU(K:W.Frag):V→Option Int→Option Int→Hp→VK→Prop:=fun x lo hi H Q=>∃a xs,x=.ref a∧SqT K H a xs ∧
 ((HT.sIx xs.length 0 lo=0∧HT.sIx xs.length xs.length hi=xs.length)→Q (.ref a) H)∧(¬(HT.sIx xs.length 0 lo=0∧HT.sIx xs.length xs.length hi=xs.length)→∀p,H p=none→Q (.ref p) (upd H p (.tup (cutV xs lo hi))))
def rSlD(K:W.Frag):V→Option Int→Option Int→Hp→VK→Prop:=fun x lo hi H Q=>rSlL K x lo hi H Q∨rSlU K x lo hi H Q
theorem Zo0{ta:TE}{ma:ME}{tl th:TO}{ml mh:Ev→Res (Option Int)}(ha:SE K mg E ta ma)(hl:SO K mg E tl ml)(hh:SO K mg E th mh):SE K mg E (tSl (rSlD K) ta tl th) (cut ma ml mh):=by
 intro F0 H0 F H σ ρ rr
 refine (ha F0 H0 F H σ ρ rr).bind fun F1 H1 x dx g1 rx=>?_
 refine (hl F0 H0 F1 H1 σ ρ (rr.gr g1)).bind fun F2 H2 l l' g2 e2=>?_
 cases (show l=l' from e2)
 refine (hh F0 H0 F2 H2 σ ρ ((rr.gr g1).gr g2)).bind fun F3 H3 h h' g3 e3=>?_
 cases (show h=h' from e3)
 have rx':=rx.same (g2.f.trans g3.f)
 unfold dCut
 split
 ·cases rx' with
  | lst hx r =>
   refine Zdb g3.s (o:=.lst _) (fun p hp=>.lst (SqL.of Zal) ((Zjo r l h).same (ZaP (g3.s.free hp) _))) fun Q q=>.inl ⟨_,_,rfl,g3.s.seq hx,q⟩
 ·cases rx' with
  | tup hx r =>
   rename_i ds a xs
   intro Q q
   refine .inr ⟨a,xs,rfl,ZaO g3.s hx,fun e=>?_,fun _ p hp=>q _ _ _ (.new g3.s hp _) (.tup (SqT.of Zal) ((Zjo r l h).same (ZaP (g3.s.free hp) _)))⟩
   have ec:cutL ds l h=ds:=by
    unfold cutL
    simp only [Zio,←r.length,e.1,e.2]
    rw [List.drop_zero,Nat.sub_zero,r.length,List.take_length]
   rw [ec] at q
   exact q F3 H3 _ (.refl g3.s) (.tup hx r)
 ·trivial
theorem Zm7:SO K mg E ZhO pno:=fun _ _ _ _ _ _ r=>Ans.ret (R:=RO) r.ss rfl fun _ q=>q
theorem ZnA{ta:TE}{ma:ME}(ha:SE K mg E ta ma):SO K mg E (ZnK ta) (pso ma):=by
 intro F0 H0 F H σ ρ rr
 refine (ha F0 H0 F H σ ρ rr).bind fun F1 H1 x dx g1 rx=>?_
 cases dx with
 | int i=>cases rx;exact Ans.ret (R:=RO) g1.s rfl fun Q q=>⟨i,rfl,q⟩
 | _=>trivial
theorem ZaH:CallD K mg (fun xs H Q=>∃p ys,xs=[.ref p]∧(SqL K H p ys∨SqT K H p ys)∧Q (.int ys.length) H) bLen:=by
 intro E F H xs ds s r
 unfold bLen
 split
 ·obtain ⟨x,rfl,rx⟩:=r.one
  cases rx with
  | lst h q=>rw [←q.length];exact .ret s (.int _) fun Q q=>⟨_,_,rfl,.inl (s.seq h),q⟩
 ·obtain ⟨x,rfl,rx⟩:=r.one
  cases rx with
  | tup h q=>rw [←q.length];exact .ret s (.int _) fun Q q=>⟨_,_,rfl,.inr (ZaO s h),q⟩
 ·trivial
theorem Zdc:CallD K mg (fun xs H Q=>∃i,xs=[.int i]∧Q (.int (if i<0 then -i else i)) H) bAbs:=by
 intro E F H xs ds s r
 unfold bAbs
 split
 ·obtain ⟨x,rfl,rx⟩:=r.one
  cases rx
  exact .ret s (.int _) fun Q q=>⟨_,rfl,q⟩
 ·trivial
theorem Zhn:CallD K mg (fun xs H Q=>∃i j,xs=[.int i,.int j]∧Q (.int (if j>i then j else i)) H) bMax:=by
 intro E F H xs ds s r
 unfold bMax
 split
 ·obtain ⟨x,y,rfl,rx,ry⟩:=r.two
  cases rx;cases ry
  exact .ret s (.int _) fun Q q=>⟨_,_,rfl,q⟩
 ·trivial
theorem ZcT:CallD K mg (fun xs H Q=>∃p ys,xs=[.ref p]∧((SqL K H p ys∧∀l,H l=none→Q (.ref l) (upd H l (.tup ys)))∨(SqT K H p ys∧Q (.ref p) H))) bTup:=by
 intro E F H xs ds s r
 unfold bTup
 split
 ·obtain ⟨x,rfl,rx⟩:=r.one
  cases rx with
  | lst h q=>exact Zdb s (o:=.tup _) (fun p hp=>.tup (SqT.of Zal) (q.same (ZaP (s.free hp) _))) fun Q z=>⟨_,_,rfl,.inl ⟨s.seq h,z⟩⟩
 ·obtain ⟨x,rfl,rx⟩:=r.one
  cases rx with
  | tup h q=>exact .ret s (.tup h q) fun Q z=>⟨_,_,rfl,.inr ⟨ZaO s h,z⟩⟩
 ·trivial
theorem ZcE:CallD K mg (fun xs H Q=>∃p ys,xs=[.ref p]∧(SqL K H p ys∨SqT K H p ys)∧∀l,H l=none→Q (.ref l) (upd H l (.lst ys))) bLst:=by
 intro E F H xs ds s r
 unfold bLst
 split
 ·obtain ⟨x,rfl,rx⟩:=r.one
  cases rx with
  | lst h q=>exact Zdb s (o:=.lst _) (fun p hp=>.lst (SqL.of Zal) (q.same (ZaP (s.free hp) _))) fun Q z=>⟨_,_,rfl,.inl (s.seq h),z⟩
 ·obtain ⟨x,rfl,rx⟩:=r.one
  cases rx with
  | tup h q=>exact Zdb s (o:=.lst _) (fun p hp=>.lst (SqL.of Zal) (q.same (ZaP (s.free hp) _))) fun Q z=>⟨_,_,rfl,.inr (ZaO s h),z⟩
 ·trivial
def spD(K:W.Frag)(mg:Str→Option Value)(n:Nat)(m:List D→Res D):Sp:=fun vs H Q E=>vs.length=n∧∃F ds,Same F H∧Rps K mg F vs ds∧m ds≠.bad ∧
 (∀d,m ds=.ok d→∀F' H' x,Gr F H F' H'→Rp K mg F' x d→Q x H')∧(∀c,m ds=.ex c→∀F' H' C,Gr F H F' H'→mg c=some (.ref C)→E (.ref C) none H')
theorem Zil{n:Nat}{m:List D→Res D}{F H:Hp}{vs:List V}{ds:List D}(s:Same F H)(r:Rps K mg F vs ds)(hl:ds.length=n):Ans mg E (Rp K mg) F H (m ds) (fun Q=>spD K mg n m vs H Q E):=by
 have hv:vs.length=n:=r.length.trans hl
 cases e:m ds with
 | ok d =>
  intro Q q
  refine ⟨hv,F,ds,s,r,fun z=>?_,fun d' e'=>?_,fun c e'=>?_⟩
  ·rw [e] at z;cases z
  ·rw [e] at e';cases e';exact q
  ·rw [e] at e';cases e'
 | ex c =>
  intro Q q
  refine ⟨hv,F,ds,s,r,fun z=>?_,fun d' e'=>?_,fun c e'=>?_⟩
  ·rw [e] at z;cases z
  ·rw [e] at e';cases e'
  ·rw [e] at e';cases e';exact q
 | bad=>trivial
theorem Zof{n:Nat}{m:List D→Res D}{t:TA}{ma:MA}(ha:SA K mg E t ma)(hl:SAn n ma):SE K mg E (ZhI (spD K mg n m) [] E t) (on m ma):=by
 intro F0 H0 F H σ ρ rr
 refine (ha F0 H0 F H σ ρ rr).bindE (w':=fun vs H1 Q=>spD K mg n m (vs++[]) H1 Q E) fun ds e F1 H1 vs g1 rs=>?_
 have z:=Zil (E:=E) (m:=m) g1.s rs (hl ρ ds e)
 simp only [List.append_nil]
 exact z
end
section
variable{K:W.Frag}{mg:Str→Option Value}{E:XK}{ta:TE}{ma:ME}{F0 H0 F H:Hp}
theorem AnsS.mono{F1:Hp}{r:Res Fl}{w:Ends→Prop}(s:Same F F1)(h:AnsS K mg E F0 H0 F1 r w):AnsS K mg E F0 H0 F r w:=by
 cases r with
 | ok f =>
  cases f with
  | nx ρ=>exact fun D q=>h D fun F' H' σ' s' r'=>q F' H' σ' (s.trans s') r'
  | bk ρ=>exact fun D q=>h D fun F' H' σ' s' r'=>q F' H' σ' (s.trans s') r'
  | ct ρ=>exact fun D q=>h D fun F' H' σ' s' r'=>q F' H' σ' (s.trans s') r'
  | rt d=>exact h
 | ex c=>exact h
 | bad=>trivial
theorem Ans.stm{α β:Type}{R:Hp→β→α→Prop}{r:Res α}{w:(β→Hp→Prop)→Prop}{k:α→Res Fl}{w':β→Hp→Ends→Prop}(h1:Ans mg E R F H r w)(g0:Gr F0 H0 F H)(h2:∀a,r=.ok a→∀F1 H1 b,Gr F H F1 H1→R F1 b a→AnsS K mg E F0 H0 F1 (k a) (w' b H1)) :
  AnsS K mg E F0 H0 F (r.bind k) (fun D=>w fun b H1=>w' b H1 D):=by
 cases r with
 | ok a =>
  show AnsS K mg E F0 H0 F (k a) _
  have h2':=fun F1 H1 b (g:Gr F H F1 H1) q=>(h2 a rfl F1 H1 b g q).mono g.f
  generalize k a=r2 at h2'
  cases r2 with
  | ok f =>
   cases f with
   | nx ρ=>exact fun D q=>h1 _ fun F1 H1 b g rb=>h2' F1 H1 b g rb D q
   | bk ρ=>exact fun D q=>h1 _ fun F1 H1 b g rb=>h2' F1 H1 b g rb D q
   | ct ρ=>exact fun D q=>h1 _ fun F1 H1 b g rb=>h2' F1 H1 b g rb D q
   | rt d=>exact fun D q=>h1 _ fun F1 H1 b g rb=>h2' F1 H1 b g rb D q
  | ex c=>exact fun D q=>h1 _ fun F1 H1 b g rb=>h2' F1 H1 b g rb D q
  | bad=>trivial
 | ex c=>exact fun D q=>h1 _ fun F1 H1 C g hc=>q F1 H1 C (g0.trans g) hc
 | bad=>trivial
theorem Zp8:SS K mg E ZkV nop:=fun _ _ _ _ _ _ r D q=>q _ _ _ (Same.refl _) r
theorem Zpx{t u:TS}{m n:MS}(h1:SS K mg E t m)(h2:SS K mg E u n):SS K mg E (tSeq t u) (sq m n):=by
 intro F0 H0 F H σ ρ rr
 have h:=h1 F0 H0 F H σ ρ rr
 unfold sq
 cases e:m ρ with
 | ok f =>
  rw [e] at h
  cases f with
  | nx ρ' =>
   show AnsS K mg E F0 H0 F (n ρ') _
   have h2':=fun F1 H1 σ1 (s:Same F F1) r1=>(h2 F0 H0 F1 H1 σ1 ρ' r1).mono s
   generalize n ρ'=r2 at h2'
   cases r2 with
   | ok f =>
    cases f with
    | nx ρ=>exact fun D q=>h _ fun F1 H1 σ1 s r1=>h2' F1 H1 σ1 s r1 D q
    | bk ρ=>exact fun D q=>h _ fun F1 H1 σ1 s r1=>h2' F1 H1 σ1 s r1 D q
    | ct ρ=>exact fun D q=>h _ fun F1 H1 σ1 s r1=>h2' F1 H1 σ1 s r1 D q
    | rt d=>exact fun D q=>h _ fun F1 H1 σ1 s r1=>h2' F1 H1 σ1 s r1 D q
   | ex c=>exact fun D q=>h _ fun F1 H1 σ1 s r1=>h2' F1 H1 σ1 s r1 D q
   | bad=>trivial
  | bk ρ'=>exact fun D q=>h _ q
  | ct ρ'=>exact fun D q=>h _ q
  | rt d=>exact fun D q=>h _ q
 | ex c=>rw [e] at h;exact fun D q=>h _ q
 | bad=>trivial
theorem Zne(ha:SE K mg E ta ma):SS K mg E (ZfR ta) (drp ma):=by
 intro F0 H0 F H σ ρ rr
 exact (ha F0 H0 F H σ ρ rr).stm (w':=fun _ H1 D=>D.nx σ H1) rr.g fun d _ F1 H1 x g1 rx=>fun D q=>q F1 H1 σ (Same.refl _) (rr.gr g1)
theorem Zo7(ha:SE K mg E ta ma):SS K mg E (tRet ta) (ret ma):=by
 intro F0 H0 F H σ ρ rr
 exact (ha F0 H0 F H σ ρ rr).stm (w':=fun x H1 D=>D.rt x H1) rr.g fun d _ F1 H1 x g1 rx=>fun D q=>q F1 H1 x (rr.g.trans g1) rx
theorem Zq8{sc:TT}{nc:MB}{t u:TS}{m n:MS}(hc:STt K mg E sc nc)(h1:SS K mg E t m)(h2:SS K mg E u n):SS K mg E (tIfS sc t u) (ifs nc m n):=by
 intro F0 H0 F H σ ρ rr
 refine (hc F0 H0 F H σ ρ rr).stm (w':=fun b H1 D=>if b=true then t D σ H1 else u D σ H1) rr.g fun b _ F1 H1 x g1 rx=>?_
 cases (show x=b from rx)
 cases b with
 | true =>
  have z:=h1 F0 H0 F1 H1 σ ρ (rr.gr g1)
  simp only [if_true];exact z
 | false =>
  have z:=h2 F0 H0 F1 H1 σ ρ (rr.gr g1)
  simp only [Bool.false_eq_true,if_false];exact z
theorem Zh5{α:Type}{l:List α}{i n:Nat}{x:α}(h:i<n):(l.set i x).drop n=l.drop n:=by
 rw [List.drop_set,if_pos h]
theorem ZmM{i n:Nat}(h:i<n):SG K mg n (ZeE i) (gN i):=fun _ _ _ _ _ _ _ _ r rx _ q=>q _ _ _ (Same.refl _) (r.set i rx) (Zh5 h)
theorem Zmm{i:Nat}(ha:SE K mg E ta ma):SS K mg E (tAsg ta (ZeE i)) (st i ma):=by
 intro F0 H0 F H σ ρ rr
 exact (ha F0 H0 F H σ ρ rr).stm (w':=fun x H1 D=>D.nx (σ.set i (some x)) H1) rr.g fun d _ F1 H1 x g1 rx=>fun D q=>q F1 H1 _ (Same.refl _) ((rr.gr g1).set i rx)
theorem Zox{i j:Nat}{tb:TE}{mb:ME}(ha:SE K mg E ta ma)(hb:SE K mg E tb mb):SS K mg E (tPar i j (ZdA ta (ZdA tb tNil))) (par i j ma mb):=by
 intro F0 H0 F H σ ρ rr
 refine (ha F0 H0 F H σ ρ rr).stm (w':=fun x H1 D=>tb σ H1 fun y H2=>∃v w,[x,y]=[v,w]∧D.nx ((σ.set i (some v)).set j (some w)) H2) rr.g fun d _ F1 H1 x g1 rx=>?_
 refine (hb F0 H0 F1 H1 σ ρ (rr.gr g1)).stm (w':=fun y H2 D=>∃v w,[x,y]=[v,w]∧D.nx ((σ.set i (some v)).set j (some w)) H2) (rr.g.trans g1) fun e _ F2 H2 y g2 ry=>?_
 exact fun D q=>⟨x,y,rfl,q F2 H2 _ (Same.refl _) ((((rr.gr g1).gr g2).set i (rx.same g2.f)).set j ry)⟩
theorem Zp2{i:Nat}(ha:SE K mg E ta ma)(hty:∀H a xs,H a=some (.lst xs)→tyV K "list" (.ref a) H):SS K mg E (ZfR (tBM K "list" Zdo (tVar i) (ZdA ta tNil))) (app i ma):=by
 intro F0 H0 F H σ ρ rr
 unfold app getO
 split
 ·next ds e =>
  show AnsS K mg E F0 H0 F ((ma ρ).bind fun d=>if ds.length<LIM then .ok (.nx (ρ.set i (.ow (ds++[d])))) else .bad) _
  obtain ⟨a,xs,e2,e4,e5,e3,hr⟩:=rr.ow i ds e
  have hl:xs.length=ds.length:=hr.length
  have h:=(ha F0 H0 F H σ ρ rr).stm (K:=K) (k:=fun d=>if ds.length<LIM then .ok (.nx (ρ.set i (.ow (ds++[d])))) else .bad) (w':=fun x H2 D=>Zdo (.ref a) [x] H2 fun _ H3=>D.nx σ H3) rr.g fun d _ F1 H1 x g1 rx=>?_
  ·generalize ((ma ρ).bind fun d=>if ds.length<LIM then Res.ok (Fl.nx (ρ.set i (.ow (ds++[d])))) else .bad)=res at h
   have fin:∀D:Ends,(ta σ H fun x H2=>Zdo (.ref a) [x] H2 fun _ H3=>D.nx σ H3)→ZfR (tBM K "list" Zdo (tVar i) (ZdA ta tNil)) D σ H:=fun D z=>⟨.ref a,e2,hty H a xs e3,z⟩
   cases res with
   | ok f =>
    cases f with
    | nx ρ=>exact fun D q=>fin D (h D q)
    | bk ρ=>exact fun D q=>fin D (h D q)
    | ct ρ=>exact fun D q=>fin D (h D q)
    | rt d=>exact fun D q=>fin D (h D q)
   | ex c=>exact fun D q=>fin D (h D q)
   | bad=>trivial
  ·by_cases hlim:ds.length<LIM
   ·simp only [hlim,if_true]
    have r1:=rr.gr g1
    obtain ⟨q1,q2⟩:=g1.o a _ e5 e3
    exact fun D q=>⟨a,xs,x,rfl,rfl,q2,by rw [hl];exact Nat.lt_of_lt_of_le hlim (by decide),q F1 _ σ (Same.refl _) (r1.app e e2 q2 e4 q1 (hr.same g1.f) rx)⟩
   ·simp only [hlim,if_false];trivial
 ·trivial
def iSeq(K:W.Frag)(tl:TE):TI:=fun σ H R=>tl σ H fun x H1=>∃a,x=.ref a∧(((∃xs,SqL K H1 a xs)∧R (Itl K a) H1)∨((∃xs,SqT K H1 a xs)∧R (Itt K a) H1))
theorem ZoV{a:Addr}{xs:List V}{ds:List D}(h:SqL K F a xs)(r:Rps K mg F xs ds):ItOk K mg F (Itl K a) ds:=by
 intro F' H' s1 s2 i
 have hq:SqL K H' a xs:=(s1.trans s2).seq h
 refine ⟨fun d e=>?_,fun hl=>⟨xs,hq,by rw [r.length];exact hl⟩⟩
 obtain ⟨x,e1,rx⟩:=r.get e
 refine ⟨⟨xs,x,hq,e1⟩,fun y H'' q=>?_⟩
 obtain ⟨rfl,q⟩:=q
 have e2:=q xs hq
 rw [e1] at e2;cases e2
 exact ⟨F',.refl s2,rx.same s1⟩
theorem ZoD{a:Addr}{xs:List V}{ds:List D}(h:SqT K F a xs)(r:Rps K mg F xs ds):ItOk K mg F (Itt K a) ds:=by
 intro F' H' s1 s2 i
 have hq:SqT K H' a xs:=ZaO (s1.trans s2) h
 refine ⟨fun d e=>?_,fun hl=>⟨xs,hq,by rw [r.length];exact hl⟩⟩
 obtain ⟨x,e1,rx⟩:=r.get e
 refine ⟨⟨xs,x,hq,e1⟩,fun y H'' q=>?_⟩
 obtain ⟨rfl,q⟩:=q
 have e2:=q xs hq
 rw [e1] at e2;cases e2
 exact ⟨F',.refl s2,rx.same s1⟩
theorem ZoU(lo:Int)(n:Nat):ItOk K mg F (Itr lo n) (Zbt lo n):=by
 intro F' H' s1 s2 i
 unfold Zbt
 refine ⟨fun d e=>?_,fun hl=>?_⟩
 ·rw [List.getElem?_map] at e
  have hi:i<n:=by
   rcases Nat.lt_or_ge i n with z | z
   ·exact z
   ·rw [List.getElem?_eq_none (by rw [List.length_range];exact z)] at e;cases e
  rw [List.getElem?_range hi] at e
  cases e
  refine ⟨hi,fun y H'' q=>?_⟩
  obtain ⟨rfl,rfl⟩:=q
  exact ⟨F',.refl s2,.int _⟩
 ·rw [List.length_map,List.length_range] at hl
  exact hl
theorem ZoO(ha:SE K mg E ta ma):SI K mg E (iSeq K ta) (iv ma):=by
 intro F0 H0 F H σ ρ rr
 refine (ha F0 H0 F H σ ρ rr).bind fun F1 H1 x dx g1 rx=>?_
 cases dx with
 | lst ds =>
  cases rx with
  | lst h r=>exact Ans.ret (R:=ItOk K mg) g1.s (ZoV h r) fun Q q=>⟨_,rfl,.inl ⟨⟨_,g1.s.seq h⟩,q⟩⟩
 | tup ds =>
  cases rx with
  | tup h r=>exact Ans.ret (R:=ItOk K mg) g1.s (ZoD h r) fun Q q=>⟨_,rfl,.inr ⟨⟨_,ZaO g1.s h⟩,q⟩⟩
 | _=>trivial
theorem ZqC{t:TA}{m:MA}(ha:SA K mg E t m):SI K mg E (Zoj t) (r1 m):=by
 intro F0 H0 F H σ ρ rr
 refine (ha F0 H0 F H σ ρ rr).bind fun F1 H1 xs ds g1 rs=>?_
 unfold rng1
 split
 ·next j =>
  by_cases h:-1000000000≤j∧j≤1000000000
  ·rw [if_pos h]
   obtain ⟨x,rfl,rx⟩:=rs.one
   cases rx
   exact Ans.ret (R:=ItOk K mg) g1.s (ZoU 0 _) fun Q q=>⟨j,rfl,by omega,by omega,q⟩
  ·rw [if_neg h];trivial
 ·trivial
theorem ZpE{wi:TI}{mi:MI}{n:Nat}{t:TG}{g:MG}{u:TS}{m:MS}(hi:SI K mg E wi mi)(hg:SG K mg n t g)(hx:∀d ρ c,g d ρ≠.ex c)(hb:SS K mg E u m):SS K mg E (tFor wi t u) (for_ mi g m):=by
 intro F0 H0 F H σ ρ rr
 refine (hi F0 H0 F H σ ρ rr).stm (w':=fun J H1 D=>∃W:Nat→Nat→St→Hp→Prop,(∃m,W 0 m σ H1)∧∀i m σ H,W i m σ H →
  (J.stop i H∧D.nx σ H)∨(J.go i H∧∃N:St→Hp→Prop,(∀σ' H',N σ' H'→∃m',m'<m∧W (i+1) m' σ' H')∧∀x H',J.yld i H x H'→t x σ H' fun σ2 H2=>u { D with nx:=N,ct:=N,bk:=D.nx } σ2 H2)) rr.g fun ds _ F1 H1 J g1 jo=>?_
 have r1:=rr.gr g1
 have key:∀(D:Ends) (res:Res Fl),res≠.bad→(∀ρ',res=.ok (.nx ρ')→∀F' H' σ',Same F1 F'→Rep K mg F0 H0 F' H' σ' ρ'→D.nx σ' H')→(∀ρ',res=.ok (.bk ρ')→∀F' H' σ',Same F1 F'→Rep K mg F0 H0 F' H' σ' ρ'→D.bk σ' H') →
   (∀ρ',res=.ok (.ct ρ')→∀F' H' σ',Same F1 F'→Rep K mg F0 H0 F' H' σ' ρ'→D.ct σ' H')→(∀d,res=.ok (.rt d)→∀F' H' x,Gr F0 H0 F' H'→Rp K mg F' x d→D.rt x H') →
   (∀c,res=.ex c→∀F' H' C,Gr F0 H0 F' H'→mg c=some (.ref C)→E (.ref C) none H')→Zb6 g m ds ρ=res →
   ∃W:Nat→Nat→St→Hp→Prop,(∃m,W 0 m σ H1)∧∀i m σ H,W i m σ H →
    (J.stop i H∧D.nx σ H)∨(J.go i H∧∃N:St→Hp→Prop,(∀σ' H',N σ' H'→∃m',m'<m∧W (i+1) m' σ' H')∧∀x H',J.yld i H x H'→t x σ H' fun σ2 H2=>u { D with nx:=N,ct:=N,bk:=D.nx } σ2 H2):=by
  intro D res hbad qn qb qc qr qe e0
  refine ⟨fun i k σ' H'=>k=ds.length - i∧i≤ds.length∧∃ρ' F',Same F1 F'∧Rep K mg F0 H0 F' H' σ' ρ'∧Zb6 g m (ds.drop i) ρ'=res,⟨ds.length,by simp,Nat.zero_le _,ρ,F1,Same.refl _,r1,e0⟩,?_⟩
  rintro i k σ' H' ⟨rfl,hi',ρ',F',s1,r',e⟩
  by_cases hlt:i<ds.length
  ·refine .inr ?_
   have hd:ds[i]?=some ds[i]:=List.getElem?_eq_getElem hlt
   obtain ⟨go,yl⟩:=(jo F' H' s1 r'.ss i).1 _ hd
   rw [List.drop_eq_getElem_cons hlt] at e
   refine ⟨go,fun σ2 H2=>∃ρ2 F2,Same F1 F2∧Rep K mg F0 H0 F2 H2 σ2 ρ2∧Zb6 g m (ds.drop (i+1)) ρ2=res,fun σ2 H2 ⟨ρ2,F2,s2,r2,e2⟩=>⟨ds.length - (i+1),by omega,rfl,hlt,ρ2,F2,s2,r2,e2⟩,fun x H2 y=>?_⟩
   obtain ⟨F2,g2,rx⟩:=yl x H2 y
   have r2:=r'.gr g2
   have hG:=hg F0 H0 F2 H2 σ' ρ' x _ r2 rx
   have e':(g ds[i] ρ').bind (fun ρ1=>(m ρ1).bind (turn (Zb6 g m (ds.drop (i+1)))))=res:=e
   cases eg:g ds[i] ρ' with
   | ok ρ1 =>
    rw [eg] at e' hG
    refine hG _ fun F3 H3 σ3 s3 r3 _=>?_
    have hB:=hb F0 H0 F3 H3 σ3 ρ1 r3
    have sF:Same F1 F3:=s1.trans (g2.f.trans s3)
    have e2:(m ρ1).bind (turn (Zb6 g m (ds.drop (i+1))))=res:=e'
    cases em:m ρ1 with
    | ok f =>
     rw [em] at e2 hB
     cases f with
     | nx ρ2=>exact hB _ fun F4 H4 σ4 s4 r4=>⟨ρ2,F4,sF.trans s4,r4,e2⟩
     | ct ρ2=>exact hB _ fun F4 H4 σ4 s4 r4=>⟨ρ2,F4,sF.trans s4,r4,e2⟩
     | bk ρ2=>exact hB _ fun F4 H4 σ4 s4 r4=>qn ρ2 e2.symm F4 H4 σ4 (sF.trans s4) r4
     | rt d=>exact hB _ fun F4 H4 y g4 ry=>qr d e2.symm F4 H4 y g4 ry
    | ex c =>
     rw [em] at e2 hB
     exact hB _ fun F4 H4 C g4 hc=>qe c e2.symm F4 H4 C g4 hc
    | bad=>rw [em] at e2;exact absurd e2.symm hbad
   | ex c=>exact absurd eg (hx _ _ c)
   | bad=>rw [eg] at e';exact absurd e'.symm hbad
  ·have hi2:i=ds.length:=by omega
   subst hi2
   rw [List.drop_eq_nil_of_le (Nat.le_refl _)] at e
   exact .inl ⟨(jo F' H' s1 r'.ss _).2 (Nat.le_refl _),qn ρ' e.symm F' H' σ' s1 r'⟩
 cases e:Zb6 g m ds ρ with
 | ok f =>
  cases f with
  | nx ρ2=>exact fun D q=>key D _ (fun z=>by cases z) (fun _ z=>by cases z;exact q) (fun _ z=>by cases z) (fun _ z=>by cases z) (fun _ z=>by cases z) (fun _ z=>by cases z) e
  | bk ρ2=>exact fun D q=>key D _ (fun z=>by cases z) (fun _ z=>by cases z) (fun _ z=>by cases z;exact q) (fun _ z=>by cases z) (fun _ z=>by cases z) (fun _ z=>by cases z) e
  | ct ρ2=>exact fun D q=>key D _ (fun z=>by cases z) (fun _ z=>by cases z) (fun _ z=>by cases z) (fun _ z=>by cases z;exact q) (fun _ z=>by cases z) (fun _ z=>by cases z) e
  | rt d=>exact fun D q=>key D _ (fun z=>by cases z) (fun _ z=>by cases z) (fun _ z=>by cases z) (fun _ z=>by cases z) (fun _ z=>by cases z;exact q) (fun _ z=>by cases z) e
 | ex c=>exact fun D q=>key D _ (fun z=>by cases z) (fun _ z=>by cases z) (fun _ z=>by cases z) (fun _ z=>by cases z) (fun _ z=>by cases z) (fun _ z=>by cases z;exact q) e
 | bad=>trivial
theorem ZlK{n:Ev→Nat}{sc:TT}{nc:MB}{u:TS}{m:MS}(hc:STt K mg E sc nc)(hb:SS K mg E u m):SS K mg E (Ziy sc u) (whl n nc m):=by
 intro F0 H0 F H σ ρ rr
 have key:∀(D:Ends) (res:Res Fl),res≠.bad→(∀ρ',res=.ok (.nx ρ')→∀F' H' σ',Same F F'→Rep K mg F0 H0 F' H' σ' ρ'→D.nx σ' H')→(∀ρ',res=.ok (.bk ρ')→∀F' H' σ',Same F F'→Rep K mg F0 H0 F' H' σ' ρ'→D.bk σ' H') →
   (∀ρ',res=.ok (.ct ρ')→∀F' H' σ',Same F F'→Rep K mg F0 H0 F' H' σ' ρ'→D.ct σ' H')→(∀d,res=.ok (.rt d)→∀F' H' x,Gr F0 H0 F' H'→Rp K mg F' x d→D.rt x H') →
   (∀c,res=.ex c→∀F' H' C,Gr F0 H0 F' H'→mg c=some (.ref C)→E (.ref C) none H')→whGo nc m (n ρ) ρ=res→Ziy sc u D σ H:=by
  intro D res hbad qn qb qc qr qe e0
  refine ⟨fun k σ' H'=>∃ρ' F',Same F F'∧Rep K mg F0 H0 F' H' σ' ρ'∧whGo nc m k ρ'=res,⟨n ρ,ρ,F,Same.refl _,rr,e0⟩,?_⟩
  rintro k σ' H' ⟨ρ',F',s1,r',e⟩
  cases k with
  | zero=>exact absurd e.symm hbad
  | succ k =>
   have e':(nc ρ').bind (fun x=>if x=true then (m ρ').bind (turn (whGo nc m k)) else .ok (.nx ρ'))=res:=e
   have hC:=hc F0 H0 F' H' σ' ρ' r'
   cases ec:nc ρ' with
   | ok b =>
    rw [ec] at e' hC
    refine hC _ fun F2 H2 b' g2 eb=>?_
    cases (show b'=b from eb)
    have r2:=r'.gr g2
    cases b with
    | true =>
     rw [if_pos rfl]
     have hB:=hb F0 H0 F2 H2 σ' ρ' r2
     have e2:(m ρ').bind (turn (whGo nc m k))=res:=e'
     refine ⟨fun σ3 H3=>∃ρ3 F3,Same F F3∧Rep K mg F0 H0 F3 H3 σ3 ρ3∧whGo nc m k ρ3=res,fun σ3 H3 h=>⟨k,Nat.lt_succ_self _,h⟩,?_⟩
     have sF:Same F F2:=s1.trans g2.f
     cases em:m ρ' with
     | ok f =>
      rw [em] at e2 hB
      cases f with
      | nx ρ2=>exact hB _ fun F4 H4 σ4 s4 r4=>⟨ρ2,F4,sF.trans s4,r4,e2⟩
      | ct ρ2=>exact hB _ fun F4 H4 σ4 s4 r4=>⟨ρ2,F4,sF.trans s4,r4,e2⟩
      | bk ρ2=>exact hB _ fun F4 H4 σ4 s4 r4=>qn ρ2 e2.symm F4 H4 σ4 (sF.trans s4) r4
      | rt d=>exact hB _ fun F4 H4 y g4 ry=>qr d e2.symm F4 H4 y g4 ry
     | ex c =>
      rw [em] at e2 hB
      exact hB _ fun F4 H4 C g4 hc=>qe c e2.symm F4 H4 C g4 hc
     | bad=>rw [em] at e2;exact absurd e2.symm hbad
    | false =>
     rw [if_neg Bool.false_ne_true]
     have e2:Res.ok (Fl.nx ρ')=res:=e'
     exact qn ρ' e2.symm F2 H2 σ' (s1.trans g2.f) r2
   | ex c =>
    rw [ec] at e' hC
    exact hC _ fun F4 H4 C g4 hc=>qe c e'.symm F4 H4 C (r'.g.trans g4) hc
   | bad=>rw [ec] at e';exact absurd e'.symm hbad
 unfold whl
 cases e:whGo nc m (n ρ) ρ with
 | ok f =>
  cases f with
  | nx ρ2=>exact fun D q=>key D _ (fun z=>by cases z) (fun _ z=>by cases z;exact q) (fun _ z=>by cases z) (fun _ z=>by cases z) (fun _ z=>by cases z) (fun _ z=>by cases z) e
  | bk ρ2=>exact fun D q=>key D _ (fun z=>by cases z) (fun _ z=>by cases z) (fun _ z=>by cases z;exact q) (fun _ z=>by cases z) (fun _ z=>by cases z) (fun _ z=>by cases z) e
  | ct ρ2=>exact fun D q=>key D _ (fun z=>by cases z) (fun _ z=>by cases z) (fun _ z=>by cases z) (fun _ z=>by cases z;exact q) (fun _ z=>by cases z) (fun _ z=>by cases z) e
  | rt d=>exact fun D q=>key D _ (fun z=>by cases z) (fun _ z=>by cases z) (fun _ z=>by cases z) (fun _ z=>by cases z) (fun _ z=>by cases z;exact q) (fun _ z=>by cases z) e
 | ex c=>exact fun D q=>key D _ (fun z=>by cases z) (fun _ z=>by cases z) (fun _ z=>by cases z) (fun _ z=>by cases z) (fun _ z=>by cases z) (fun _ z=>by cases z;exact q) e
 | bad=>trivial
end
section
variable{K:W.Frag}{mg:Str→Option Value}{E:XK}{F0 H0 F H:Hp}{σ:St}{ρ:Ev}
theorem Rep.inner{own:List Str}{cap:List (Str×Nat)}{Fb Hb:Hp}(r:Rep K mg F0 H0 F H σ ρ)(gb:Gr Fb Hb F H):Rep K mg Fb Hb F H (st0 own σ cap) (noA own.length (capD ρ (cap.map (·.2)))):=by
 have key:∀(i:Nat) (cl:Cl),(noA own.length (capD ρ (cap.map (·.2))))[i]?=some cl→cl=.no∨∃j p d,i=own.length+j∧cap[j]?=some p∧ρ[p.2]?=some (.im d)∧cl=.im d:=by
  intro i cl e
  rw [ZiT,Zgs] at e
  by_cases hi:i<own.length
  ·rw [List.getElem?_append_left (by simpa using hi),List.getElem?_replicate,if_pos hi] at e
   cases e
   exact .inl rfl
  ·rw [List.getElem?_append_right (by simpa using hi),List.length_replicate] at e
   rw [List.map_map,List.getElem?_map] at e
   cases q:cap[i - own.length]? with
   | none=>rw [q] at e;cases e
   | some p =>
    rw [q] at e
    have e':imOf ρ[p.2]?=cl:=Option.some.inj e
    unfold imOf at e'
    split at e'
    ·next d h=>exact .inr ⟨i - own.length,p,d,by omega,q,h,e'.symm⟩
    ·exact .inl e'.symm
 refine ⟨gb,?_,fun i d e=>?_,fun i ds e=>?_,fun i j ds es a e=>?_⟩
 ·rw [ZiT,Zgs]
  unfold st0 capt
  simp
 ·rcases key i _ e with z | ⟨j,p,d',rfl,hp,hρ,z⟩
  ·cases z
  ·cases z
   obtain ⟨x,hx,rx⟩:=r.im p.2 d hρ
   refine ⟨x,?_,rx⟩
   unfold st0 capt
   rw [List.getElem?_append_right (by simp),List.length_replicate,Nat.add_sub_cancel_left,List.getElem?_map,hp]
   show some ((σ[p.2]?).join)=_
   rw [hx];rfl
 ·rcases key i _ e with z | ⟨j,p,d',rfl,hp,hρ,z⟩<;>cases z
 ·rcases key i _ e with z | ⟨j,p,d',rfl,hp,hρ,z⟩<;>cases z
theorem Zge{own:List Str}{cap:List (Str×Nat)}:(st0 own σ cap).drop own.length=capt σ cap:=by
 unfold st0
 rw [List.drop_append_of_le_length (by simp),List.drop_of_length_le (by simp)]
 rfl
theorem ZmP{t:TG}{g:MG}{tt:TT}{nt:MB}{te:TE}{me:ME}{own:List Str}{cap:List (Str×Nat)}{J:It}{ds ys:List D}(r:Rep K mg F0 H0 F H σ ρ)(jo:ItOk K mg F J ds)(hg:SG K mg own.length t g)(ht:STt K mg E0 tt nt)(he:SE K mg E0 te me)
  (hl:ds.length≤LIM) (e0:Dl.Zao g nt me (noA own.length (capD ρ (cap.map (·.2)))) ds=.ok ys) (Q:VK) (q:∀F' H' xs,Gr F H F' H'→Rps K mg F' xs ys→xs.length≤sizeLine→∀p,H' p=none→Q (.ref p) (upd H' p (.lst xs))) :
  ZcP J t tt te own cap σ Q H:=by
 refine ⟨fun i k acc H'=>k=ds.length - i∧i≤ds.length∧acc.length≤i∧∃F' zs rs,Gr F H F' H'∧Rps K mg F' acc zs∧Dl.Zao g nt me (noA own.length (capD ρ (cap.map (·.2)))) (ds.drop i)=.ok rs∧zs++rs=ys,
  ⟨ds.length,by simp,Nat.zero_le _,Nat.le_refl _,F,[],ys,.refl r.ss,.nil,e0,rfl⟩,?_⟩
 rintro i k acc H' ⟨rfl,hi,ha,F',zs,rs,g1,r1,e1,e2⟩
 have la:acc.length≤LIM:=Nat.le_trans ha (Nat.le_trans hi hl)
 refine ⟨ZdI la,?_⟩
 by_cases hlt:i<ds.length
 ·refine .inr ?_
  have hd:ds[i]?=some ds[i]:=List.getElem?_eq_getElem hlt
  obtain ⟨go,yl⟩:=(jo F' H' g1.f g1.s i).1 _ hd
  rw [List.drop_eq_getElem_cons hlt] at e1
  refine ⟨go,fun x H2 y=>?_⟩
  obtain ⟨F2,g2,rx⟩:=yl x H2 y
  have rr:=(r.gr (g1.trans g2)).inner (own:=own) (cap:=cap) (g1.trans g2)
  have hG:=hg F H F2 H2 _ _ x _ rr rx
  have e':(g ds[i] (noA own.length (capD ρ (cap.map (·.2))))).bind (fun ρ1=>(nt ρ1).bind fun b=>if b=true then (me ρ1).bind fun y=>(Dl.Zao g nt me (noA own.length (capD ρ (cap.map (·.2)))) (ds.drop (i+1))).bind fun ys=>.ok (y::ys) else Dl.Zao g nt me (noA own.length (capD ρ (cap.map (·.2)))) (ds.drop (i+1)))=.ok rs:=e1
  cases eg:g ds[i] (noA own.length (capD ρ (cap.map (·.2)))) with
  | ok ρ1 =>
   rw [eg] at e' hG
   refine hG _ fun F3 H3 σ3 s3 r3 d3=>⟨d3.trans Zge,?_⟩
   have hT:=ht F H F3 H3 σ3 ρ1 r3
   have sF:Same F' F3:=g2.f.trans s3
   have e3:(nt ρ1).bind (fun b=>if b=true then (me ρ1).bind fun y=>(Dl.Zao g nt me (noA own.length (capD ρ (cap.map (·.2)))) (ds.drop (i+1))).bind fun ys=>.ok (y::ys) else Dl.Zao g nt me (noA own.length (capD ρ (cap.map (·.2)))) (ds.drop (i+1)))=.ok rs:=e'
   cases et:nt ρ1 with
   | ok b =>
    rw [et] at e3 hT
    refine hT _ fun F4 H4 b' g4 eb=>?_
    cases (show b'=b from eb)
    cases b with
    | true =>
     rw [if_pos rfl]
     have e4:(me ρ1).bind (fun y=>(Dl.Zao g nt me (noA own.length (capD ρ (cap.map (·.2)))) (ds.drop (i+1))).bind fun ys=>.ok (y::ys))=.ok rs:=e3
     have hE:=he F H F4 H4 σ3 ρ1 (r3.gr g4)
     cases em:me ρ1 with
     | ok y' =>
      rw [em] at e4 hE
      refine hE _ fun F5 H5 u g5 ru=>⟨Nat.lt_of_le_of_lt la (by decide),ds.length - (i+1),by omega,rfl,hlt,by rw [List.length_append];show acc.length+1≤i+1;omega,?_⟩
      have e5:(Dl.Zao g nt me (noA own.length (capD ρ (cap.map (·.2)))) (ds.drop (i+1))).bind (fun ys=>.ok (y'::ys))=.ok rs:=e4
      cases ec:Dl.Zao g nt me (noA own.length (capD ρ (cap.map (·.2)))) (ds.drop (i+1)) with
      | ok rs' =>
       rw [ec] at e5
       have e6:Res.ok (y'::rs')=.ok rs:=e5
       cases e6
       exact ⟨F5,zs++[y'],rs',r3.g.trans (g4.trans g5),Rps.app (.cons ru .nil) (r1.same (sF.trans (g4.f.trans g5.f))),rfl,by rw [List.append_assoc];exact e2⟩
      | ex c=>rw [ec] at e5;cases e5
      | bad=>rw [ec] at e5;cases e5
     | ex c=>rw [em] at e4;cases e4
     | bad=>rw [em] at e4;cases e4
    | false =>
     rw [if_neg Bool.false_ne_true]
     have e4:Dl.Zao g nt me (noA own.length (capD ρ (cap.map (·.2)))) (ds.drop (i+1))=.ok rs:=e3
     exact ⟨ds.length - (i+1),by omega,rfl,hlt,by omega,F4,zs,rs,r3.g.trans g4,r1.same (sF.trans g4.f),e4,e2⟩
   | ex c=>rw [et] at e3;cases e3
   | bad=>rw [et] at e3;cases e3
  | ex c=>rw [eg] at e';cases e'
  | bad=>rw [eg] at e';cases e'
 ·have hi2:i=ds.length:=by omega
  subst hi2
  rw [List.drop_eq_nil_of_le (Nat.le_refl _)] at e1
  cases e1
  rw [List.append_nil] at e2
  subst e2
  exact .inl ⟨(jo F' H' g1.f g1.s _).2 (Nat.le_refl _),q F' H' acc g1 r1 (ZdI la)⟩
theorem ZkF{wi:TI}{mi:MI}{t:Fam TG}{g:MG}{tt:Fam TT}{nt:MB}{te:Fam TE}{me:ME}{own:List Str}{cap:List (Str×Nat)}(hi:SI K mg E wi mi)(hg:∀C s H fp pn,SG K mg own.length (t C s H fp pn) g)(ht:∀C s H fp pn,STt K mg E0 (tt C s H fp pn) nt)(he:∀C s H fp pn,SE K mg E0 (te C s H fp pn) me) :
  SE K mg E (Zef wi t tt te own cap) (comp mi own.length (cap.map (·.2)) g nt me):=by
 intro F0 H0 F H σ ρ rr
 refine (hi F0 H0 F H σ ρ rr).bind (w':=fun J H1 Q=>∀C s H2 fp pn,ZcP J (t C s H2 fp pn) (tt C s H2 fp pn) (te C s H2 fp pn) own cap σ Q H1) fun F1 H1 J ds g1 jo=>?_
 by_cases hl:ds.length≤LIM
 ·rw [if_pos hl]
  cases e:Dl.Zao g nt me (noA own.length (capD ρ (cap.map (·.2)))) ds with
  | ok ys=>exact fun Q q C s H2 fp pn=>ZmP (rr.gr g1) jo (hg C s H2 fp pn) (ht C s H2 fp pn) (he C s H2 fp pn) hl e Q fun F' H' xs g2 rs _ p hp=>q _ _ _ (g2.trans (.new g2.s hp _)) (.lst (SqL.of Zal) (rs.same (ZaP (g2.s.free hp) _)))
  | ex c=>trivial
  | bad=>trivial
 ·rw [if_neg hl];trivial
end
structure DE(X:Cx)(E:XK)(e:Expr)(t:TE)(m:ME):Prop where
 p:PE X e t
 s:SE X.K X.mg E t m
structure DT(X:Cx)(E:XK)(e:Expr)(t:TT)(m:MB):Prop where
 p:PT X e t
 s:STt X.K X.mg E t m
structure DW(X:Cx)(E:XK)(e:Expr)(t:TT)(m:MB):Prop where
 p:PW X e t
 s:STt X.K X.mg E t m
structure DA(X:Cx)(E:XK)(n:Nat)(es:List Expr)(t:TA)(m:MA):Prop where
 p:PA X es t
 s:SA X.K X.mg E t m
 n:SAn n m
structure DO(X:Cx)(E:XK)(e:Option Expr)(t:TO)(m:Ev→Res (Option Int)):Prop where
 p:PO X e t
 s:SO X.K X.mg E t m
structure DS(X:Cx)(E:XK)(st:Stmt)(t:TS)(m:MS):Prop where
 p:PS X st t
 s:SS X.K X.mg E t m
structure DSs(X:Cx)(E:XK)(st:List Stmt)(t:TS)(m:MS):Prop where
 p:PSs X st t
 s:SS X.K X.mg E t m
structure DG(X:Cx)(n:Nat)(e:Expr)(t:TG)(g:MG):Prop where
 p:PG X e t
 s:SG X.K X.mg n t g
 x:∀d ρ c,g d ρ≠.ex c
structure DI(X:Cx)(E:XK)(tg e:Expr)(t:TI)(m:MI):Prop where
 p:PI X tg e t
 s:SI X.K X.mg E t m
section
variable{X:Cx}{E:XK}{a b e c':Expr}{es:List Expr}{ta tb tc te:TE}{ma mb mc me:ME}{sa sb:TT}{na nb:MB}{t:TA}{m:MA}{pos:Pos}{n:Nat}
theorem d_v(i:Nat){x:Str}(hN:X.N[i]?=some x:=by rfl)(hv:Vis X.env.scope x:=by first | exact Or.inl rfl | exact Or.inr (Or.inl rfl) | exact Or.inr (Or.inr rfl))(hd:(x==("__debug__" : Str))=false:=by decide)
  (hcd:(x==("__classdict__" : Str))=false:=by decide):DE X E (.Name x pos) (tVar i) (v i):=⟨ZdC hN hv hd hcd,se_v i⟩
theorem Zae{i j}:DE X E (.Constant (.int i) j pos) (tC (.int i)) (c (.int i)):=⟨ZmB,se_c fun _=>.int _⟩
theorem d_bl{i j}:DE X E (.Constant (.bool i) j pos) (tC (.bl i)) (c (.bl i)):=⟨ZqM,se_c fun _=>.bl _⟩
theorem ZaJ{i j}:DE X E (.Constant (.str i) j pos) (tC (.str i)) (c (.str i)):=⟨Zms,se_c fun _=>.str _⟩
theorem d_ty{k:String}{x:Str}(hg:Gl X x)(hm:X.mg x=none)(hv:bootBuiltins x=some (.type k))(hn:x ≠ "__name__" := by decide)(hd:(x==("__debug__" : Str))=false:=by decide):DE X E (.Name x pos) (tC (.ty k)) (c (.ty k)) :=
 ⟨ZpG hg hm hv hn hd,se_c fun _=>.ty _⟩
theorem d_gi{x:Str}{i:Int}{tk:Tok}(hg:Gl X x)(hm:X.mg x=some (.int i tk))(hd:(x==("__debug__" : Str))=false:=by decide):DE X E (.Name x pos) (tC (.int i)) (c (.int i)):=⟨Zfo hg hm ⟨_,rfl⟩ hd,se_c fun _=>.int _⟩
theorem Zhz{op:Operator}{r:R2}{f:D→D→Res D}(ho:OpR X (binaryOp op) r)(hf:OpD X.K X.mg r f)(ha:DE X E a ta ma)(hb:DE X E b tb mb):DE X E (.BinOp a op b pos) (tOp r ta tb) (o2 f ma mb):=⟨Zqy ho ha.p hb.p,Zk3 hf ha.s hb.s⟩
theorem Zlw{op:CmpOp}{r:R2}{f:D→D→Res D}(ho:OpR X (compareOp op) r)(hf:OpD X.K X.mg r f)(ha:DE X E a ta ma)(hb:DE X E b tb mb)(hm:behindInMarks op b=false):DE X E (.Compare a [op] [b] pos) (tOp r ta tb) (o2 f ma mb):=⟨ZmK ho ha.p hb.p hm,Zk3 hf ha.s hb.s⟩
theorem Zd8{op:CmpOp}{r:R2}{f:D→D→Res D}(ho:OpR X (compareOp op) r)(hf:OpD X.K X.mg r f)(ha:DE X E a ta ma)(hb:DE X E b tb mb)(hm:behindInMarks op b=false):DT X E (.Compare a [op] [b] pos) (Zd3 (tOp r ta tb)) (trb (o2 f ma mb)):=⟨Zm1 ho ha.p hb.p hm,Zj9 (Zk3 hf ha.s hb.s)⟩
theorem OpR.or{f:Value→Value→Sem Value}{r r':R2}(h:OpR X f r)(h':OpR X f r'):OpR X f (fun x y H Q=>r x y H Q∨r' x y H Q):=by
 intro pins s σ H x y v u Q I rx ry q
 rcases q with q | q
 ·exact h pins s σ H x y v u Q I rx ry q
 ·exact h' pins s σ H x y v u Q I rx ry q
theorem Zns:OpR X (binaryOp .Add) (Zpk X.K):=by
 intro pins s σ H x y v u Q I rx ry h
 obtain ⟨l,b,xs,zs,rfl,rfl,hH,hB,hz,q⟩:=h
 cases rx
 cases ry
 exact ZkS I hH hB hz q
theorem ZnM:OpR X (binaryOp .Add) (Zpr X.K):=by
 intro pins s σ H x y v u Q I rx ry h
 obtain ⟨a,b,xs,ys,rfl,rfl,ha,hb,hz,q0,q1,q2⟩:=h
 cases rx
 cases ry
 exact ZlS I ha hb hz q0 q1 q2
theorem Znx:OpR X (binaryOp .Add) (ZmX X.K):=OpR.or Zpa (OpR.or Zns (OpR.or ZnM Zjf))
theorem ZaR(ha:DE X E a ta ma)(hb:DE X E b tb mb):DE X E (.BinOp a .Add b pos) (tOp (ZmX X.K) ta tb) (o2 dAdd ma mb):=Zhz Znx Znc ha hb
theorem Zkx(ha:DE X E a ta ma)(hb:DE X E b tb mb):DE X E (.BinOp a .Sub b pos) (tOp (rI0 fun i j=>V.int (i - j)) ta tb) (o2 dSub ma mb):=Zhz Zpm ZnY ha hb
theorem Zpn{a b:Int}(h:Zfa a b=true):IntMulOk a b:=by
 have h':(a.natAbs<2^64∨b.natAbs<2^64)∨a.natAbs.log2+b.natAbs.log2<100000000:=by simpa [Zfa] using h
 rcases h' with (h' | h') | h'
 ·exact .of_left (intBits_le_iff.mpr h')
 ·exact .of_right (intBits_le_iff.mpr h')
 ·have la:a.natAbs<2^(a.natAbs.log2+1):=Nat.lt_log2_self
  have lb:b.natAbs<2^(b.natAbs.log2+1):=Nat.lt_log2_self
  exact IntMulOk.of_le (intBits_le_iff.mpr la) (intBits_le_iff.mpr lb) (by omega)
theorem ZnW{K:W.Frag}{mg:Str→Option Value}:OpD K mg (rI IntMulOk fun i j=>.int (i*j)) dMul:=Zi7 fun a b=>by
 unfold iMul
 by_cases h:Zfa a b=true
 ·rw [if_pos h];exact .inl ⟨_,rfl,Zpn h,fun _=>.int _⟩
 ·rw [if_neg h];exact .inr rfl
theorem ZfP(ha:DE X E a ta ma)(hb:DE X E b tb mb):DE X E (.BinOp a .Mult b pos) (tOp (rI IntMulOk fun i j=>V.int (i*j)) ta tb) (o2 dMul ma mb):=Zhz ZmZ ZnW ha hb
theorem Zcp(ha:DE X E a ta ma)(hb:DE X E b tb mb):DE X E (.BinOp a .Mod b pos) (tOp (rI (fun _ j=>j≠0) fun i j=>V.int (i.fmod j)) ta tb) (o2 dMod ma mb):=Zhz ZnT Zn1 ha hb
theorem Zji(ha:DE X E a ta ma)(hb:DE X E b tb mb):DE X E (.BinOp a .FloorDiv b pos) (tOp (rI Znr fun i j=>V.int (i.fdiv j)) ta tb) (o2 dDiv ma mb):=Zhz ZlQ ZmW ha hb
theorem ZkL(ha:DE X E a ta ma)(hb:DE X E b tb mb):DE X E (.BinOp a .Pow b pos) (tOp (rI CPow fun i j=>V.int (i^j.toNat)) ta tb) (o2 dPow ma mb):=Zhz ZoP Znw ha hb
theorem ZkO(ha:DE X E a ta ma)(hb:DE X E b tb mb):DE X E (.BinOp a .LShift b pos) (tOp (rI CPow fun i j=>V.int (i*2^j.toNat)) ta tb) (o2 dShl ma mb):=Zhz Zqf Znn ha hb
theorem ZoM(ha:DE X E a ta ma)(hb:DE X E b tb mb):DE X E (.BinOp a .RShift b pos) (tOp (rI (fun _ j=>0≤j) fun i j=>V.int (i/2^j.toNat)) ta tb) (o2 dShr ma mb):=Zhz ZpM Zog ha hb
theorem ZqI(ha:DE X E a ta ma):DE X E (.UnaryOp .USub a pos) (tUn (rU fun i=>V.int (-i)) ta) (o1 dNeg ma):=⟨Zo5 Zmb ha.p,Zou (Znl fun _ _ _ q=>⟨_,rfl,q⟩) ha.s⟩
theorem d_ge(ha:DE X E a ta ma)(hb:DE X E b tb mb):DE X E (.Compare a [.GtE] [b] pos) (tOp (rI0 fun i j=>V.bl (decide (j≤i))) ta tb) (o2 dGe ma mb):=Zlw ZoX Zmv ha hb (Zea _)
theorem Zlk(ha:DE X E a ta ma)(hb:DE X E b tb mb):DT X E (.Compare a [.Lt] [b] pos) (Zd3 (tOp (rI0 fun i j=>V.bl (decide (i<j))) ta tb)) (trb (o2 dLt ma mb)):=Zd8 ZqN ZpF ha hb (Zea _)
theorem Zq9(ha:DE X E a ta ma)(hb:DE X E b tb mb):DT X E (.Compare a [.LtE] [b] pos) (Zd3 (tOp (rI0 fun i j=>V.bl (decide (i≤j))) ta tb)) (trb (o2 dLe ma mb)):=Zd8 Zn4 Zkt ha hb (Zea _)
theorem Zly(ha:DE X E a ta ma)(hb:DE X E b tb mb):DT X E (.Compare a [.Gt] [b] pos) (Zd3 (tOp (rI0 fun i j=>V.bl (decide (j<i))) ta tb)) (trb (o2 dGt ma mb)):=Zd8 ZqQ ZpA ha hb (Zea _)
theorem Zp9(ha:DE X E a ta ma)(hb:DE X E b tb mb):DT X E (.Compare a [.GtE] [b] pos) (Zd3 (tOp (rI0 fun i j=>V.bl (decide (j≤i))) ta tb)) (trb (o2 dGe ma mb)):=Zd8 ZoX Zmv ha hb (Zea _)
mutual
def pyD:D→PyData
 | .non=>.none
 | .bl b=>.bool b
 | .int i=>.int i
 | .str x=>.str x
 | .tup xs=>.tuple (pyDs xs)
 | .lst xs=>.list (pyDs xs)
 | _=>.none
def pyDs:List D→List PyData
 | []=>[]
 | x::r=>pyD x::pyDs r
end
mutual
theorem Ziq:∀x y:D,∀k l,Dl.plain k x=true→Dl.plain l y=true→eqD x y=PyData.eqv (pyD x) (pyD y)
 | .non,y,_,_,_,hy=>by cases y<;>first | rfl | (simp [Dl.plain] at hy)
 | .bl _,y,_,_,_,hy=>by cases y<;>first | rfl | (simp [Dl.plain] at hy)
 | .int _,y,_,_,_,hy=>by cases y<;>first | rfl | (simp [Dl.plain] at hy)
 | .str _,y,_,_,_,hy=>by cases y<;>first | rfl | (simp [Dl.plain] at hy)
 | .tup xs,y,k,l,hx,hy=>by
  cases y<;>first | rfl | (simp [Dl.plain] at hy;done) | skip
  rename_i ys
  cases k with
  | zero=>simp [Dl.plain] at hx
  | succ k =>
   cases l with
   | zero=>simp [Dl.plain] at hy
   | succ l=>exact Zh1 xs ys k l (by simpa [Dl.plain] using hx) (by simpa [Dl.plain] using hy)
 | .lst xs,y,k,l,hx,hy=>by
  cases y<;>first | rfl | (simp [Dl.plain] at hy;done) | skip
  rename_i ys
  cases k with
  | zero=>simp [Dl.plain] at hx
  | succ k =>
   cases l with
   | zero=>simp [Dl.plain] at hy
   | succ l=>exact Zh1 xs ys k l (by simpa [Dl.plain] using hx) (by simpa [Dl.plain] using hy)
 | .ty _,_,k,_,hx,_=>by cases k<;>simp [Dl.plain] at hx
 | .cls _,_,k,_,hx,_=>by cases k<;>simp [Dl.plain] at hx
 | .exc _,_,k,_,hx,_=>by cases k<;>simp [Dl.plain] at hx
 | .ins _ _ _,_,k,_,hx,_=>by cases k<;>simp [Dl.plain] at hx
theorem Zh1:∀xs ys:List D,∀k l,Dl.ZaF k xs=true→Dl.ZaF l ys=true→eqDs xs ys=PyData.eqvAll (pyDs xs) (pyDs ys)
 | [],[],_,_,_,_=>rfl
 | [],_::_,_,_,_,_=>rfl
 | _::_,[],_,_,_,_=>rfl
 | x::xs,y::ys,k,l,hx,hy=>by
  have h1:Dl.plain k x=true∧Dl.ZaF k xs=true:=by simpa [Dl.ZaF] using hx
  have h2:Dl.plain l y=true∧Dl.ZaF l ys=true:=by simpa [Dl.ZaF] using hy
  show (eqD x y&&eqDs xs ys)=(PyData.eqv (pyD x) (pyD y)&&PyData.eqvAll (pyDs xs) (pyDs ys))
  rw [Ziq x y k l h1.1 h2.1,Zh1 xs ys k l h1.2 h2.2]
end
mutual
theorem Zdv:∀(x:D) (k:Nat),Dl.plain k x=true→(pyD x).canLay0=true∧(pyD x).depth≤k
 | .non,_,_=>⟨rfl,Nat.zero_le _⟩
 | .bl _,_,_=>⟨rfl,Nat.zero_le _⟩
 | .int _,_,_=>⟨rfl,Nat.zero_le _⟩
 | .str x,_,h=>⟨by simpa [Dl.plain,pyD,PyData.canLay0,PyData.strOk] using h,Nat.zero_le _⟩
 | .tup xs,0,h=>by simp [Dl.plain] at h
 | .lst xs,0,h=>by simp [Dl.plain] at h
 | .tup xs,k+1,h=>by
  obtain ⟨h1,h2⟩:=Zem xs k (by simpa [Dl.plain] using h)
  exact ⟨h1,Nat.succ_le_succ h2⟩
 | .lst xs,k+1,h=>by
  obtain ⟨h1,h2⟩:=Zem xs k (by simpa [Dl.plain] using h)
  exact ⟨h1,Nat.succ_le_succ h2⟩
 | .ty _,k,h=>by cases k<;>simp [Dl.plain] at h
 | .cls _,k,h=>by cases k<;>simp [Dl.plain] at h
 | .exc _,k,h=>by cases k<;>simp [Dl.plain] at h
 | .ins _ _ _,k,h=>by cases k<;>simp [Dl.plain] at h
theorem Zem:∀(xs:List D) (k:Nat),Dl.ZaF k xs=true→PyData.canLayAll0 (pyDs xs)=true∧PyData.depthAll (pyDs xs)≤k
 | [],_,_=>⟨rfl,Nat.zero_le _⟩
 | x::xs,k,h=>by
  have h':Dl.plain k x=true∧Dl.ZaF k xs=true:=by simpa [Dl.ZaF] using h
  obtain ⟨a1,a2⟩:=Zdv x k h'.1
  obtain ⟨b1,b2⟩:=Zem xs k h'.2
  refine ⟨?_,Nat.max_le.mpr ⟨a2,b2⟩⟩
  show (PyData.canLay0 (pyD x)&&PyData.canLayAll0 (pyDs xs))=true
  rw [a1,b1];rfl
end
mutual
theorem ZiY{K:W.Frag}{mg:Str→Option Value}{F:Hp}:∀{x:V} {d:D} {k:Nat},Rp K mg F x d→Dl.plain k d=true→DV K F x (pyD d)
 | _,_,_,.non,_=>.non
 | _,_,_,.bl b,_=>.bl b
 | _,_,_,.int b,_=>.int b
 | _,_,_,.str b,_=>.str b
 | _,_,0,.tup h r,p=>by simp [Dl.plain] at p
 | _,_,0,.lst h r,p=>by simp [Dl.plain] at p
 | _,_,k+1,.tup h r,p=>.tup h (ZgB r (by simpa [Dl.plain] using p))
 | _,_,k+1,.lst h r,p=>.lst h (ZgB r (by simpa [Dl.plain] using p))
 | _,_,k,.ty _,p=>by cases k<;>simp [Dl.plain] at p
 | _,_,k,.cls _,p=>by cases k<;>simp [Dl.plain] at p
 | _,_,k,.exc _ _,p=>by cases k<;>simp [Dl.plain] at p
 | _,_,k,.ins _ _ _ _ _,p=>by cases k<;>simp [Dl.plain] at p
theorem ZgB{K:W.Frag}{mg:Str→Option Value}{F:Hp}:∀{xs:List V} {ds:List D} {k:Nat},Rps K mg F xs ds→Dl.ZaF k ds=true→DVs K F xs (pyDs ds)
 | _,_,_,.nil,_=>.nil
 | _,_,k,.cons h r,p=>by
  have p':=(show Dl.plain k _=true∧Dl.ZaF k _=true by simpa [Dl.ZaF] using p)
  exact .cons (ZiY h p'.1) (ZgB r p'.2)
end
mutual
theorem ZeD{K:W.Frag}{F H:Hp}(s:Same F H):∀{x:V} {d:PyData},DV K F x d→DV K H x d
 | _,_,.non=>.non
 | _,_,.bl b=>.bl b
 | _,_,.int b=>.int b
 | _,_,.str b=>.str b
 | _,_,.tup h r=>.tup (ZaO s h) (ZeY s r)
 | _,_,.lst h r=>.lst (s.seq h) (ZeY s r)
theorem ZeY{K:W.Frag}{F H:Hp}(s:Same F H):∀{xs:List V} {ds:List PyData},DVs K F xs ds→DVs K H xs ds
 | _,_,.nil=>.nil
 | _,_,.cons h r=>.cons (ZeD s h) (ZeY s r)
end
theorem Zl5{K:W.Frag}{mg:Str→Option Value}:OpD K mg (rEqD K id) dEq:=by
 intro E F H x y dx dy s rx ry
 unfold dEq
 by_cases h:(Dl.plain 50 dx&&Dl.plain 50 dy)=true
 ·rw [if_pos h]
  have h':Dl.plain 50 dx=true∧Dl.plain 50 dy=true:=by simpa using h
  obtain ⟨a1,a2⟩:=Zdv dx 50 h'.1
  obtain ⟨b1,b2⟩:=Zdv dy 50 h'.2
  exact .ret s (.bl _) fun Q q=>⟨_,_,ZeD s (ZiY rx h'.1),ZeD s (ZiY ry h'.2),a1,b1,Nat.le_trans a2 (by decide),by rw [←Ziq dx dy 50 50 h'.1 h'.2];exact q⟩
 ·rw [if_neg h];trivial
theorem Zl8{K:W.Frag}{mg:Str→Option Value}:OpD K mg (rEqD K not) dNe:=by
 intro E F H x y dx dy s rx ry
 unfold dNe
 by_cases h:(Dl.plain 50 dx&&Dl.plain 50 dy)=true
 ·rw [if_pos h]
  have h':Dl.plain 50 dx=true∧Dl.plain 50 dy=true:=by simpa using h
  obtain ⟨a1,a2⟩:=Zdv dx 50 h'.1
  obtain ⟨b1,b2⟩:=Zdv dy 50 h'.2
  exact .ret s (.bl _) fun Q q=>⟨_,_,ZeD s (ZiY rx h'.1),ZeD s (ZiY ry h'.2),a1,b1,Nat.le_trans a2 (by decide),by rw [←Ziq dx dy 50 50 h'.1 h'.2];exact q⟩
 ·rw [if_neg h];trivial
theorem d_eq{k:Nat}(hr:Room k X.A)(ha:DE X E a ta ma)(hb:DE X E b tb mb):DE X E (.Compare a [.Eq] [b] pos) (tOp (rEqD X.K id) ta tb) (o2 dEq ma mb):=Zlw (Zma hr.units) Zl5 ha hb (Zea _)
theorem d_ne{k:Nat}(hr:Room k X.A)(ha:DE X E a ta ma)(hb:DE X E b tb mb):DE X E (.Compare a [.NotEq] [b] pos) (tOp (rEqD X.K not) ta tb) (o2 dNe ma mb):=Zlw (Zmy hr.units) Zl8 ha hb (Zea _)
theorem ZcH{k:Nat}(hr:Room k X.A)(ha:DE X E a ta ma)(hb:DE X E b tb mb):DT X E (.Compare a [.Eq] [b] pos) (Zd3 (tOp (rEqD X.K id) ta tb)) (trb (o2 dEq ma mb)):=Zd8 (Zma hr.units) Zl5 ha hb (Zea _)
theorem Zec{k:Nat}(hr:Room k X.A)(ha:DE X E a ta ma)(hb:DE X E b tb mb):DT X E (.Compare a [.NotEq] [b] pos) (Zd3 (tOp (rEqD X.K not) ta tb)) (trb (o2 dNe ma mb)):=Zd8 (Zmy hr.units) Zl8 ha hb (Zea _)
theorem d_ix(ha:DE X E a ta ma)(hb:DE X E b tb mb)(hs:Zks b:=by exact fun _ _=>rfl):DE X E (.Subscript a b pos) (tOp (rIxD X.K) ta tb) (o2 dIx ma mb):=⟨Zpl (IxR.or ZjP Zmg) ha.p hb.p hs,Zk3 Zop ha.s hb.s⟩
theorem Zbd(ha:DE X E a ta ma)(he:∀whole,isTrue a X.env whole=(do let v ←whole;standAt a.pos;holding [v] (truthy v)):=by intro _;rfl):DT X E a (L2.tB ta) (trb ma):=⟨Zqj ha.p he,st_b ha.s⟩
theorem ZeC(ha:DT X E a sa na):DW X E (.BoolOp .And [a] pos) sa na:=⟨Znq ha.p,ha.s⟩
theorem Zck(ha:DT X E a sa na):DW X E (.BoolOp .Or [a] pos) sa na:=⟨ZpR ha.p,ha.s⟩
theorem Zfe{rest:List Expr}(ha:DT X E a sa na)(hb:DW X E (.BoolOp .And (b::rest) pos) sb nb):DW X E (.BoolOp .And (a::b::rest) pos) (tAnd sa sb) (bAnd na nb):=⟨Zpf ha.p hb.p,ZoE ha.s hb.s⟩
theorem ZdX{rest:List Expr}(ha:DT X E a sa na)(hb:DW X E (.BoolOp .Or (b::rest) pos) sb nb):DW X E (.BoolOp .Or (a::b::rest) pos) (tOr sa sb) (bOr na nb):=⟨ZqV ha.p hb.p,ZqE ha.s hb.s⟩
theorem DW.dt(h:DW X E a sa na):DT X E a sa na:=⟨h.p.pt,h.s⟩
theorem Zbm(ha:DT X E a sa na):DT X E (.UnaryOp .Not a pos) (tNot sa) (bNot na):=⟨Zp6 ha.p,Zpg ha.s⟩
theorem ZhW{op}(ha:DE X E a ta ma):DE X E (.BoolOp op [a] pos) ta ma:=⟨Zqd ha.p,ha.s⟩
theorem Zkj{rest:List Expr}(ha:DE X E a ta ma)(hb:DE X E (.BoolOp .And (b::rest) pos) tb mb):DE X E (.BoolOp .And (a::b::rest) pos) (ZnE ta tb) (eAnd ma mb):=⟨Zoy ha.p hb.p,ZpI ha.s hb.s⟩
theorem d_or{rest:List Expr}(ha:DE X E a ta ma)(hb:DE X E (.BoolOp .Or (b::rest) pos) tb mb):DE X E (.BoolOp .Or (a::b::rest) pos) (tOrV ta tb) (eOr ma mb):=⟨ZqO ha.p hb.p,Zqq ha.s hb.s⟩
theorem Zqx(ha:DE X E a ta ma):DE X E (.UnaryOp .Not a pos) (ZmQ ta) (eNot ma):=⟨Zpy ha.p,Zo6 ha.s⟩
theorem ZoQ(hc:DT X E c' sa na)(ha:DE X E a ta ma)(hb:DE X E b tb mb):DE X E (.IfExp c' a b pos) (tIf sa ta tb) (ife na ma mb):=⟨Zk5 hc.p ha.p hb.p,ZpU hc.s ha.s hb.s⟩
theorem Zac:DA X E 0 [] tNil anil:=⟨ZdE,Zmw,Zkp⟩
theorem Zaa(ha:DE X E e te me)(hr:DA X E n es t m)(hs:starEach (e::es) X.env=(false,eval e X.env)::starEach es X.env:=by rfl):DA X E (n+1) (e::es) (ZdA te t) (Zab me m):=⟨Zcs ha.p hr.p hs,Zn2 ha.s hr.s,ZkR hr.n⟩
theorem ZgW{x1}(h:DA X E n es t m)(hn:n≤sizeLine:=by decide):DE X E (.Tuple es x1 pos) (tTup t) (mtp m):=⟨Zqi h.p,ZoS h.s h.n hn⟩
theorem Zce(h:DA X E n es t m)(hn:n≤sizeLine:=by decide):DE X E (.List es pos) (tLst t) (mls m):=⟨Zhb h.p,Zp3 h.s h.n hn⟩
theorem d_cb{id:String}{r:List V→Hp→VK→Prop}{f:List D→Res D}{x:Str}{p:Pos}(hc:ZdV X (.builtin id) r)(hf:CallD X.K X.mg r f)(hg:Gl X x)(hm:X.mg x=none)(hv:bootBuiltins x=some (.builtin id))(ha:DA X E n (e::es) t m)(hn:x ≠ "__name__" := by decide)(hdb:(x==("__debug__" : Str))=false:=by decide)
  (he:starEach (e::es) X.env=(false,eval e X.env)::starEach es X.env:=by rfl) (hpl:(backTo pos (starEach es X.env)).any (·.1)=false:=by rfl):DE X E (.Call (.Name x p) (e::es) [] pos) (tCB r t) (on f m):=⟨Zla hc hg hm hv ha.p hn hdb he hpl,Zow hf ha.s⟩
theorem d_ct{T:String}{r:List V→Hp→VK→Prop}{f:List D→Res D}{x:Str}{p:Pos}(hc:ZdV X (.type T) r)(hf:CallD X.K X.mg r f)(hg:Gl X x)(hm:X.mg x=none)(hv:bootBuiltins x=some (.type T))(ha:DA X E n (e::es) t m)(hn:x ≠ "__name__" := by decide)(hdb:(x==("__debug__" : Str))=false:=by decide)
  (he:starEach (e::es) X.env=(false,eval e X.env)::starEach es X.env:=by rfl) (hpl:(backTo pos (starEach es X.env)).any (·.1)=false:=by rfl):DE X E (.Call (.Name x p) (e::es) [] pos) (tCB r t) (on f m):=⟨ZjQ hc hg hm hv ha.p hn hdb he hpl,Zow hf ha.s⟩
structure Cal(P:Program)(w:World)(K:W.Frag)(mg:Str→Option Value)(base:Heap)(n:Nat)(x:Str)(ps:List Str)(m:List D→Res D):Prop where
 ex:∃(f:Addr) (fd:FuncData),FnOk P w K mg base (CXR P w) n f fd ps (spD K mg ps.length m)∧Binds K fd ps []∧W.keepIn K (.ref f)=true∧mg x=some (.ref f)
theorem Zak{k l:Nat}{x:Str}{ps:List Str}{f:List D→Res D}{p:Pos}(C:Cal X.prog X.w X.K X.mg X.base k x ps f)(hr:Room l X.A)(hn:k≤l)(hg:Gl X x)(hx:Zch (CXR X.prog X.w) X E)(ha:DA X E n (e::es) t m)(hps:ps.length=n:=by rfl)
  (hdb:(x==("__debug__" : Str))=false:=by decide) (he:starEach (e::es) X.env=(false,eval e X.env)::starEach es X.env:=by rfl) (hpl:(backTo pos (starEach es X.env)).any (·.1)=false:=by rfl) :
  DE X E (.Call (.Name x p) (e::es) [] pos) (ZhI (spD X.K X.mg ps.length f) [] E t) (on f m):=by
 obtain ⟨g,fd,F,b,kp,hm⟩:=C.ex
 exact ⟨ZkA F (hr.mono hn) hg hm kp b .nil hx ha.p hdb he hpl,by rw [hps];exact Zof ha.s ha.n⟩
theorem ZpK{N:List Str}{scope:Scope}{cl:List (Str×Addr)}{C:Addr}{s:Shared}{H:Hp}{fp:List Addr}{pn:List (Addr×Obj)}:Zch (CXR X.prog X.w) (ZaN X N scope cl C s H fp pn) E0:=by
 intro pins σ H s e s' I h
 obtain ⟨_,_,_,_,_,q⟩:=h
 exact q.elim
end
section
variable{X:Cx}{E:XK}{a b e c' tg:Expr}{es:List Expr}{ta tb tc te:TE}{ma mb mc me:ME}{sa sb:TT}{na nb:MB}{t:TA}{m:MA}{pos:Pos}{n:Nat}
theorem Znj:SlR X (rSlU X.K):=by
 intro pins s σ H x v vl vu lo hi sl Q I rx hs pl pu h
 obtain ⟨a,xs,rfl,hx,q1,q2⟩:=h
 by_cases hw:HT.sIx xs.length 0 lo=0∧HT.sIx xs.length xs.length hi=xs.length
 ·cases rx
  obtain ⟨its,r,ht,hz⟩:=I.tuple hx
  have hlen:its.toArray.size=xs.length:=by rw [List.size_toArray];exact r.length.symm
  exact ⟨"tuple", _,PyProof.Rows.slot_tuple_getitem.lookup,ht.typeIs,HT.ZdR ht hs pl pu (by rw [hlen];exact hw) ⟨.ref a,H,I,rfl,q1 hw⟩⟩
 ·exact ZoR pins s σ H (.ref a) v vl vu lo hi sl Q I rx hs pl pu ⟨a,xs,rfl,hx,hw,q2 hw⟩
theorem Zcy:DO X E none ZhO pno:=⟨ZnN,Zm7⟩
theorem Zcu(h:DE X E a ta ma):DO X E (some a) (ZnK ta) (pso ma):=⟨ZnV h.p,ZnA h.s⟩
theorem ZgX{lo hi:Option Expr}{tl th:TO}{ml mh:Ev→Res (Option Int)}{p2:Pos}(ha:DE X E a ta ma)(hl:DO X E lo tl ml)(hh:DO X E hi th mh):DE X E (.Subscript a (.Slice lo hi none p2) pos) (tSl (rSlD X.K) ta tl th) (cut ma ml mh) :=
 ⟨Zig (SlR.or Zod Znj) ha.p hl.p hh.p,Zo0 ha.s hl.s hh.s⟩
theorem Zlt{op op':CmpOp}{r r':R2}{f g:D→D→Res D}(ho:OpR X (compareOp op) r)(hf:OpD X.K X.mg r f)(ho':OpR X (compareOp op') r')(hg:OpD X.K X.mg r' g)(ha:DE X E a ta ma)(hb:DE X E b tb mb)(hc:DE X E c' tc mc)(hm:lastMarks [op,op'] [b,c']=false:=by with_unfolding_all rfl) :
  DT X E (.Compare a [op,op'] [b,c'] pos) (Zd3 (Zkb r r' ta tb tc)) (trb (chain f g ma mb mc)):=⟨ZlJ ho ho' ha.p hb.p hc.p (hm:=hm),Zj9 (Zl1 hf hg ha.s hb.s hc.s)⟩
theorem ZnL{K:W.Frag}{d:D}{tn n:String}(ht:Zid d=some tn)(hn:ZiB.contains n=true):W.kitOne K (.type tn) (.type n)=some (isTy tn n):=by
 have hn':n = "int"∨n = "bool"∨n = "str"∨n = "tuple"∨n = "list"∨n = "dict" := by
  simpa [ZiB] using hn
 have ht':tn = "NoneType"∨tn = "bool"∨tn = "int"∨tn = "str"∨tn = "tuple"∨tn = "list" := by
  cases d<;>simp [Zid] at ht<;>subst ht<;>simp
 rcases ht' with rfl | rfl | rfl | rfl | rfl | rfl<;>rcases hn' with rfl | rfl | rfl | rfl | rfl | rfl <;>
  first
  | exact Zlq K _
  | exact Zpd K (by decide +kernel) (by decide +kernel) (by decide +kernel)
def rIsi(K:W.Frag):List V→Hp→VK→Prop:=fun xs H Q=>∃x n tn b,xs=[x,.ty n]∧W.kitOne K (.type tn) (.type n)=some b∧Q (.bl b) H ∧
 ((x=.non∧tn = "NoneType")∨(∃y,x=.bl y∧tn = "bool")∨(∃y,x=.int y∧tn = "int")∨(∃y,x=.str y∧tn = "str")∨(∃a xs,x=.ref a∧SqT K H a xs∧tn = "tuple")∨(∃a xs,x=.ref a∧SqL K H a xs∧tn = "list"))
theorem Zbf:ZdV X (.builtin "isinstance") (rIsi X.K):=by
 intro pins s σ H xs us Q I r h
 obtain ⟨x,n,tn,bb,rfl,e,q,h⟩:=h
 obtain ⟨u,w',rfl,r1,r2⟩:=vals2 r
 cases r2
 have fin:∀tk,EP X pins σ Q (.bool bb) { s with toks:=tk }:=fun tk=>⟨.bl bb,H,I.tok _,rfl,q⟩
 rcases h with ⟨rfl,rfl⟩ | ⟨y,rfl,rfl⟩ | ⟨y,rfl,rfl⟩ | ⟨y,rfl,rfl⟩ | ⟨a,xs,rfl,hq,rfl⟩ | ⟨a,xs,rfl,hq,rfl⟩
 ·exact Zc7 I r1 .non e fin
 ·exact Zc7 I r1 (.bl y) e fin
 ·exact Zc7 I r1 (.int y) e fin
 ·exact Zc7 I r1 (.str y) e fin
 ·cases r1
  obtain ⟨its,_,⟨o,h1,h2,_⟩,_⟩:=I.tuple hq
  exact W.kia_one W.kitx_tuple I.kIn ⟨o,h1,h2⟩ e (fun z=>nomatch z) fin
 ·cases r1
  obtain ⟨its,_,⟨o,_,h1,h2,_⟩,_⟩:=I.list hq
  exact W.kia_one W.kitx_list I.kIn ⟨o,h1,h2⟩ e (fun z=>nomatch z) fin
theorem Zbj{K:W.Frag}{mg:Str→Option Value}:CallD K mg (rIsi K) bIsi:=by
 intro E F H xs ds s r
 unfold bIsi
 split
 ·next d nm =>
  obtain ⟨x,y,rfl,rx,ry⟩:=r.two
  cases ry
  by_cases hn:ZiB.contains nm=true
  ·rw [if_pos hn]
   cases e:Zid d with
   | none=>trivial
   | some tn =>
    have k:=ZnL (K:=K) e hn
    show Ans mg E (Rp K mg) F H (.ok (.bl (isTy tn nm))) _
    refine .ret s (.bl _) fun Q q=>⟨x,nm,tn,_,rfl,k,q,?_⟩
    cases rx with
    | non=>cases e;exact .inl ⟨rfl,rfl⟩
    | bl y=>cases e;exact .inr (.inl ⟨y,rfl,rfl⟩)
    | int y=>cases e;exact .inr (.inr (.inl ⟨y,rfl,rfl⟩))
    | str y=>cases e;exact .inr (.inr (.inr (.inl ⟨y,rfl,rfl⟩)))
    | ty y=>cases e
    | cls y=>cases e
    | exc y h=>cases e
    | ins m h o q r=>cases e
    | tup h r=>cases e;exact .inr (.inr (.inr (.inr (.inl ⟨_,_,rfl,ZaO s h,rfl⟩))))
    | lst h r=>cases e;exact .inr (.inr (.inr (.inr (.inr ⟨_,_,rfl,s.seq h,rfl⟩))))
  ·rw [if_neg hn];trivial
 ·trivial
theorem ZaE{i:Nat}{x:Str}(hN:X.N.Nodup)(hi:X.N[i]?=some x)(hx:Loc X.env.scope x)(hl:i<n)(hf:X.fn x=true∨X.env.scope.names.lookup x=some .local:=by first | exact .inl rfl | exact .inr rfl | assumption):DG X n (.Name x pos) (ZeE i) (gN i) :=
 ⟨Zka hN hi hx hf,ZmM hl,fun _ _ _ h=>by cases h⟩
theorem Zbc(h:DE X E a ta ma):DI X E tg a (iSeq X.K ta) (iv ma):=by
 refine ⟨?_,ZoO h.s⟩
 intro pins s σ H R I hw
 refine thn (h.p pins s σ H _ I hw) fun v s1 ⟨x,H1,I1,r1,q1⟩=>?_
 obtain ⟨p,rfl,q1⟩:=q1
 cases r1
 rcases q1 with ⟨⟨xs,hq⟩,q⟩ | ⟨⟨xs,hq⟩,q⟩
 ·obtain ⟨its,rv,pl,hz⟩:=I1.list hq
  refine wpAny_pyIter_list pl.isList ?_
  refine ⟨s1.heap.objs.size,[s1.heap.objs.size],_,_,H1,rfl,I1.kept (t':=s1.toks) fun b o e=>Heap.get?_push_of_some _ e,ZjA p _,⟨_,Heap.get?_push_size _ rfl,rfl,rfl⟩,fun b hb=>?_,q⟩
  have e:b=s1.heap.objs.size:=by simpa using hb
  subst e
  exact I1.fpOk (Nat.le_refl _) (I1.hok.fresh (Nat.le_refl _))
 ·obtain ⟨its,rv,pl,hz⟩:=I1.tuple hq
  refine wpAny_pyIter_tuple (show s1.heap.IsTuple p its.toArray from pl) ?_
  refine ⟨s1.heap.objs.size,[s1.heap.objs.size],_,_,H1,rfl,I1.kept (t':=s1.toks) fun b o e=>Heap.get?_push_of_some _ e,ZiW p _,⟨_,Heap.get?_push_size _ rfl,rfl,rfl⟩,fun b hb=>?_,q⟩
  have e:b=s1.heap.objs.size:=by simpa using hb
  subst e
  exact I1.fpOk (Nat.le_refl _) (I1.hok.fresh (Nat.le_refl _))
theorem Zi6{p:Pos}(hg:Gl X "range")(hm:X.mg "range"=none)(ha:DA X E n [a] t m)(hs:starEach [a] X.env=[(false,eval a X.env)]:=by rfl):DI X E tg (.Call (.Name "range" p) [a] [] pos) (Zoj t) (r1 m):=⟨ZjO hg hm ha.p hs,ZqC ha.s⟩
end
structure DTs(X:Cx)(E:XK)(ts:List Expr)(t:TT)(m:MB):Prop where
 p:PTs X ts t
 s:STt X.K X.mg E t m
section
variable{X:Cx}{E:XK}{a b e c' tg iter elt:Expr}{es ts:List Expr}{ta tb tc te:TE}{ma mb mc me:ME}{sa sb:TT}{na nb:MB}{t:TA}{m:MA}{pos spos pos':Pos}{n i j:Nat}{x y:Str}
theorem Zp5{K:W.Frag}{mg:Str→Option Value}{E:XK}:STt K mg E tYes yes:=fun _ _ _ _ _ _ r=>Ans.ret (R:=RB) r.ss rfl fun _ q=>q
theorem ZaW:DTs X E [] tYes yes:=⟨ZnI,Zp5⟩
theorem ZbC{own:List Str}{cap:List (Str×Nat)}{scope:Scope}{cl:List (Str×Addr)}{wi:TI}{mi:MI}{g:Fam TG}{gm:MG}{tt:Fam TT}{tf:Fam TE}(hi:DI X E tg iter wi mi)(O:ZaG X own cap scope cl)(hc:X.calm=true)
  (hg:∀C s H fp pn,DG (ZaN X (own++cap.map (·.1)) scope cl C s H fp pn) own.length tg (g C s H fp pn) gm) (ht:∀C s H fp pn,DTs (ZaN X (own++cap.map (·.1)) scope cl C s H fp pn) E0 ts (tt C s H fp pn) na)
  (he:∀C s H fp pn,DE (ZaN X (own++cap.map (·.1)) scope cl C s H fp pn) E0 elt (tf C s H fp pn) me) (hts:ts.length≤1:=by decide) (hs:∀x,foldedSetIterable iter X.env x=pure x:=by intro _;rfl) :
  DE X E (.ListComp elt [⟨tg,iter,ts,0⟩] scope pos) (Zef wi g tt tf own cap) (comp mi own.length (cap.map (·.2)) gm na me) :=
 ⟨ZjZ hi.p O hc (fun C s H fp pn=>(hg C s H fp pn).p) (fun C s H fp pn=>(ht C s H fp pn).p) (fun C s H fp pn=>(he C s H fp pn).p) hts hs,
  ZkF hi.s (fun C s H fp pn=>(hg C s H fp pn).s) (fun C s H fp pn=>(ht C s H fp pn).s) (fun C s H fp pn=>(he C s H fp pn).s)⟩
theorem Znz{own:List Str}{cap:List (Str×Nat)}{scope:Scope}{cl:List (Str×Addr)}{wi:TI}{mi:MI}{g:Fam TG}{gm:MG}{tt:Fam TT}{tf:Fam TE}(hN:X.N.Nodup)(hix:X.N[i]?=some x)(hx:Loc X.env.scope x)(hi:DI X E tg iter wi mi)(O:ZaG X own cap scope cl)(hc:X.calm=true)
  (hg:∀C s H fp pn,DG (ZaN X (own++cap.map (·.1)) scope cl C s H fp pn) own.length tg (g C s H fp pn) gm) (ht:∀C s H fp pn,DTs (ZaN X (own++cap.map (·.1)) scope cl C s H fp pn) E0 ts (tt C s H fp pn) na)
  (he:∀C s H fp pn,DE (ZaN X (own++cap.map (·.1)) scope cl C s H fp pn) E0 elt (tf C s H fp pn) me) (hts:ts.length≤1:=by decide)
  (hsw:swapsWith (.ListComp elt [⟨tg,iter,ts,0⟩] scope pos) (some (.Name x pos')) spos.line X.env=pure true:=by rfl)
  (hs:∀x,foldedSetIterable iter X.env x=pure x:=by intro _;rfl)
  (hf:X.fn x=true∨X.env.scope.names.lookup x=some .local:=by first | exact .inl rfl | exact .inr rfl | assumption) :
  DS X E (.Assign [.Name x pos'] (.ListComp elt [⟨tg,iter,ts,0⟩] scope pos) spos) (tAsg (Zef wi g tt tf own cap) (ZeE i)) (st i (comp mi own.length (cap.map (·.2)) gm na me)) :=
 ⟨Zi0 hN hix hx hi.p O hc (fun C s H fp pn=>(hg C s H fp pn).p) (fun C s H fp pn=>(ht C s H fp pn).p) (fun C s H fp pn=>(he C s H fp pn).p) hts hsw hs hf,
  Zmm (ZkF hi.s (fun C s H fp pn=>(hg C s H fp pn).s) (fun C s H fp pn=>(ht C s H fp pn).s) (fun C s H fp pn=>(he C s H fp pn).s))⟩
theorem Zax(hN:X.N.Nodup)(hi:X.N[i]?=some x)(hx:Loc X.env.scope x)(he:DE X E e te me)(hs:swapsWith e (some (.Name x pos')) spos.line X.env=pure false:=by rfl)(hf:X.fn x=true∨X.env.scope.names.lookup x=some .local:=by first | exact .inl rfl | exact .inr rfl | assumption) :
  DS X E (.Assign [.Name x pos'] e spos) (tAsg te (ZeE i)) (st i me):=⟨Zkl hN hi hx he.p hs hf,Zmm he.s⟩
theorem ZpJ(he:DE X E e te me)(hs:swapsWith e none spos.line X.env=pure false:=by rfl):DS X E (.Expr e spos) (ZfR te) (drp me):=⟨Zer he.p hs,Zne he.s⟩
theorem Zan(he:DE X E e te me):DS X E (.Return (some e) spos) (tRet te) (ret me):=⟨Zkz he.p,Zo7 he.s⟩
theorem Zap:DSs X E [] ZkV nop:=⟨Zkd,Zp8⟩
theorem Zag{st:Stmt}{u:TS}{k:MS}(h:DS X E st u k):DSs X E [st] u k:=⟨Zew h.p,h.s⟩
theorem Zad{st:Stmt}{rest:List Stmt}{u u':TS}{k k':MS}(h:DS X E st u k)(h':DSs X E rest u' k'):DSs X E (st::rest) (tSeq u u') (sq k k'):=⟨ZcR h.p h'.p,Zpx h.s h'.s⟩
theorem ZaT{as bs:List Stmt}{u u':TS}{k k':MS}(hc:DT X E c' sa na)(ha:DSs X E as u k)(hb:DSs X E bs u' k'):DS X E (.If c' as bs spos) (tIfS sa u u') (ifs na k k'):=⟨ZpC hc.p ha.p hb.p,Zq8 hc.s ha.s hb.s⟩
theorem Zfz{body:List Stmt}{wi:TI}{mi:MI}{g:TG}{gm:MG}{u:TS}{k:MS}(hp:PassesOwn (model X.prog X.w) X.A X.env X.xe)(hc:X.calm=true)(hi:DI X E tg iter wi mi)(hg:DG X 1000 tg g gm)(hb:DSs X E body u k)
  (hs:∀x,foldedSetIterable iter X.env x=pure x:=by intro _;rfl):DS X E (.For tg iter body [] spos) (tFor wi g u) (for_ mi gm k):=⟨Zmi hp hc hi.p hg.p hb.p hs,ZpE hi.s hg.s hg.x hb.s⟩
theorem Zju{body:List Stmt}{u:TS}{k:MS}{fu:Ev→Nat}(hp:PassesOwn (model X.prog X.w) X.A X.env X.xe)(hc:DT X E c' sa na)(hb:DSs X E body u k):DS X E (.While c' body [] spos) (Ziy sa u) (whl fu na k):=⟨ZlZ hp hc.p hb.p,ZlK hc.s hb.s⟩
theorem Zoq{px py pt:Pos}{kt k2 pt2}(hc:X.calm=true)(hN:X.N.Nodup)(hi:X.N[i]?=some x)(hj:X.N[j]?=some y)(hij:i≠j)
  (hx:X.env.scope.names.lookup x=some .local) (hy:X.env.scope.names.lookup y=some .local) (ha:DE X E a ta ma) (hb:DE X E b tb mb)
  (hw:swappedStores [.Tuple [.Name x px,.Name y py] kt pt] (.Tuple [a,b] k2 pt2) X.env=pure (some [x,y]):=by rfl)
  (hs:swapsWithSole [.Tuple [.Name x px,.Name y py] kt pt] (.Tuple [a,b] k2 pt2) spos.line X.env=pure false:=by rfl)
  (hs1:starEach [a,b] X.env=(false,eval a X.env)::starEach [b] X.env:=by rfl) (hs2:starEach [b] X.env=(false,eval b X.env)::starEach [] X.env:=by rfl) :
  DS X E (.Assign [.Tuple [.Name x px,.Name y py] kt pt] (.Tuple [a,b] k2 pt2) spos) (tPar i j (ZdA ta (ZdA tb tNil))) (par i j ma mb) :=
 ⟨Zqh hc hN hi hj hij hx hy (Zcs ha.p (Zcs hb.p ZdE hs2) hs1) hw hs,Zox ha.s hb.s⟩
end
section
variable{P:Program}{w:World}{K:W.Frag}{mg:Str→Option Value}{base:Heap}{N ps:List Str}{qual x:Str}{scope:Scope}{f:Addr}{cd:Value}{A:Around}{outer:List Env}{s₀:Shared}{H₀:Hp}{E:XK}{t:TA}{m:MA}{n:Nat}
theorem ZdH{C:Addr}{np cpos pos:Pos}{e:Expr}{es:List Expr}(hg:Gl (cxOf (CXR P w) P w K mg base N qual scope f cd A outer s₀ H₀ E) x)(hm:mg x=some (.ref C))(hq:W.excIn K C ZgI "ValueError.__new__"=true)
  (ha:DA (cxOf (CXR P w) P w K mg base N qual scope f cd A outer s₀ H₀ E) E n (e::es) t m) (hn:n≤1000:=by decide) (hd:(x==("__debug__" : Str))=false:=by decide)
  (he:starEach (e::es) (cxOf (CXR P w) P w K mg base N qual scope f cd A outer s₀ H₀ E).env=(false,eval e (cxOf (CXR P w) P w K mg base N qual scope f cd A outer s₀ H₀ E).env)::starEach es (cxOf (CXR P w) P w K mg base N qual scope f cd A outer s₀ H₀ E).env:=by rfl)
  (hpl:(backTo cpos (starEach es (cxOf (CXR P w) P w K mg base N qual scope f cd A outer s₀ H₀ E).env)).any (·.1)=false:=by rfl) :
  DS (cxOf (CXR P w) P w K mg base N qual scope f cd A outer s₀ H₀ E) E (.Raise (some (.Call (.Name x np) (e::es) [] cpos)) none pos) (ZmA E C t) (rse x m):=by
 refine ⟨ZlX hg hm hq ha.p hd he hpl,?_⟩
 intro F0 H0 F H σ ρ rr
 refine (ha.s F0 H0 F H σ ρ rr).stm (w':=fun vs H1 _=>vs.length≤1000∧E (.ref C) none H1) rr.g fun ds ed F1 H1 vs g1 rs=>?_
 exact fun D q=>⟨by rw [rs.length,ha.n ρ ds ed];exact hn,q F1 H1 C (rr.g.trans g1) hm⟩
theorem ZfG{F H:Hp}{vs:List V}{ds:List D}(s:Same F H)(r:Rps K mg F vs ds):Rep K mg F H F H (start N vs) (ev0 N.length ds):=by
 have hl:=r.length
 have key:∀(i:Nat) (c:Cl),(ev0 N.length ds)[i]?=some c→c=.no∨∃d,ds[i]?=some d∧c=.im d:=by
  intro i c e
  rw [Zg7] at e
  by_cases hi:i<ds.length
  ·rw [List.getElem?_append_left (by simpa using hi),List.getElem?_map,List.getElem?_eq_getElem hi] at e
   exact .inr ⟨ds[i],List.getElem?_eq_getElem hi,(Option.some.inj e).symm⟩
  ·rw [List.getElem?_append_right (by simpa using hi),List.getElem?_replicate] at e
   split at e
   ·exact .inl (Option.some.inj e).symm
   ·cases e
 refine ⟨.refl s,?_,fun i d e=>?_,fun i ds' e=>?_,fun i j ds' es' a e=>?_⟩
 ·rw [Zg7]
  unfold start
  simp [hl]
 ·rcases key i _ e with z | ⟨d',e1,z⟩
  ·cases z
  ·cases z
   obtain ⟨v,e2,rv⟩:=r.get e1
   refine ⟨v,?_,rv⟩
   have hi:i<vs.length:=(List.getElem?_eq_some_iff.mp e2).1
   unfold start
   rw [List.getElem?_append_left (by simpa using hi),List.getElem?_map,e2]
   rfl
 ·rcases key i _ e with z | ⟨d',e1,z⟩<;>cases z
 ·rcases key i _ e with z | ⟨d',e1,z⟩<;>cases z
theorem okD{st:Stmt}{fd:FuncData}{k:Nat}{mb:MS}(F:Fun K x x st f fd)(S:Zaj N ps (Zaf st))
  (h:∀(cdv:Value) (A:Around) (outer:List Env) (s:Shared) (H:Hp) (E:XK),Room k (A.deeper (envOfC x (Zaf st) s.heap.objs.size f cdv))→∃t,DSs (cxOf (CXR P w) P w K mg base N x (Zaf st) f cdv A outer s H E) E (ZbS st) t mb) :
  FnOk P w K mg base (CXR P w) (k+1) f fd ps (spD K mg ps.length (fn N.length mb)):=by
 obtain ⟨oc,od,kV,doc,pm,an,cdv,ct,osl,rfl,lk,hcd⟩:=F.ex
 refine ZkQ lk hcd S (fun vs H Q E q=>q.1) fun A outer s H vs Q E hr hsp=>?_
 obtain ⟨t,hd⟩:=h cdv A outer s H E hr
 refine ⟨t,hd.p,?_⟩
 obtain ⟨_,F0,ds,s0,rs,hb,hok,hex⟩:=hsp
 have z:=hd.s F0 H F0 H (start N vs) (ev0 N.length ds) (ZfG s0 rs)
 unfold fn at hb hok hex
 cases e:mb (ev0 N.length ds) with
 | ok fl =>
  rw [e] at z hb hok hex
  cases fl with
  | nx ρ=>exact z _ fun F' H' σ' _ r'=>hok .non rfl F' H' .non r'.g .non
  | rt d=>exact z _ fun F' H' v g rv=>hok d rfl F' H' v g rv
  | bk ρ=>exact absurd rfl hb
  | ct ρ=>exact absurd rfl hb
 | ex c =>
  rw [e] at z hex
  exact z _ fun F' H' C g hc=>hex c rfl F' H' C g hc
 | bad=>rw [e] at hb;exact absurd rfl hb
theorem _root_.L2.Def.cal{st:Stmt}{k:Nat}{mb:MS}(D:Def K mg x st ps)(S:Zaj N ps (Zaf st))
  (h:∀(f:Addr) (cdv:Value) (A:Around) (outer:List Env) (s:Shared) (H:Hp) (E:XK),Room k (A.deeper (envOfC x (Zaf st) s.heap.objs.size f cdv))→∃t,DSs (cxOf (CXR P w) P w K mg base N x (Zaf st) f cdv A outer s H E) E (ZbS st) t mb) :
  Cal P w K mg base (k+1) x ps (fn N.length mb):=by
 obtain ⟨f,fd,F,b,hm⟩:=D.ex
 exact ⟨f,fd,okD F S (h f),b,F.kp,hm⟩
end
theorem ZoI{P:Program}{w:World}{l:List Env}{H:Hp}{s s':Shared}{e:Value}(h:CXR P w l H s (fun _ _ _=>False) e s'):False:=by
 obtain ⟨_,_,_,_,_,q⟩:=h
 exact q
def Zls(K:W.Frag):Sp:=fun vs H Q _=>∃(a:Addr) (ns:List Int),vs=[.ref a]∧SqL K H a (ns.map V.int)∧ns.length≤63∧∀H',Q (.bl true) H'
theorem Ziv{K:W.Frag}{mg:Str→Option Value}{H:Hp}:∀ns:List Int,Rps K mg H (ns.map V.int) (ns.map D.int)
 | []=>.nil
 | n::r=>.cons (.int n) (Ziv r)
theorem Zqc{K:W.Frag}{mg:Str→Option Value}{m:List D→Res D}(h:∀ns:List Int,ns.length≤63→m [.lst (ns.map .int)]=.ok (.bl true)):∀vs H Q E,Zls K vs H Q E→spD K mg 1 m vs H Q E:=by
 rintro vs H Q E ⟨a,ns,rfl,hS,hl,q⟩
 have e:=h ns hl
 refine ⟨rfl,H,_,Same.refl _,.cons (.lst hS (Ziv ns)) .nil,fun z=>?_,fun d e'=>?_,fun c e'=>?_⟩
 ·rw [e] at z;cases z
 ·rw [e] at e';cases e'
  intro F' H' x _ rx
  cases rx
  exact q H'
 ·rw [e] at e';cases e'
theorem ZbQ{X:Cx}{N:List Str}{scope:Scope}{cl:List (Str×Addr)}{C':Addr}{s:Shared}{H:Hp}{fp:List Addr}{pn:List (Addr×Obj)}{e:Expr}{es:List Expr}{t:TA}{m:MA}{n k l:Nat}{x:Str}{ps:List Str}{f:List D→Res D}{p pos:Pos}
  (C:Cal X.prog X.w X.K X.mg X.base k x ps f) (hr:Room l X.A) (hn:k≤l) (hg:Gl (ZaN X N scope cl C' s H fp pn) x) (ha:DA (ZaN X N scope cl C' s H fp pn) E0 n (e::es) t m) (hps:ps.length=n:=by rfl)
  (hdb:(x==("__debug__" : Str))=false:=by decide) (he:starEach (e::es) (ZaN X N scope cl C' s H fp pn).env=(false,eval e (ZaN X N scope cl C' s H fp pn).env)::starEach es (ZaN X N scope cl C' s H fp pn).env:=by rfl)
  (hpl:(backTo pos (starEach es (ZaN X N scope cl C' s H fp pn).env)).any (·.1)=false:=by rfl) :
  DE (ZaN X N scope cl C' s H fp pn) E0 (.Call (.Name x p) (e::es) [] pos) (ZhI (spD X.K X.mg ps.length f) [] E0 t) (on f m) :=
 Zak (X:=ZaN X N scope cl C' s H fp pn) C hr hn hg ZpK ha hps hdb he hpl
section
variable{X:Cx}{E:XK}
theorem all_range:∀bs:List Bool,((List.range bs.length).all fun i=>bs.getD i true)=bs.all id
 | []=>rfl
 | b::r=>by
  rw [List.length_cons,List.range_succ_eq_map,List.all_cons,List.all_map,List.all_cons,←all_range r]
  rfl
theorem Zf2:∀(bs:List Bool) (its:List Value),Vals (bs.map V.bl) its→its=bs.map Value.bool
 | [],_,.nil=>rfl
 | b::r,_,.cons h t=>by
  cases h
  rw [List.map_cons,Zf2 r _ t]
def rAll(K:W.Frag):List V→Hp→VK→Prop:=fun xs H Q=>∃(a:Addr) (bs:List Bool),xs=[.ref a]∧SqL K H a (bs.map V.bl)∧Q (.bl (bs.all id)) H
theorem Zd9(hc:X.calm=true):ZdV X (.builtin "all") (rAll X.K):=by
 intro pins s σ H xs us Q I r h
 obtain ⟨a,bs,rfl,hq,q⟩:=h
 obtain ⟨u,rfl,r1⟩:=vals1 r
 cases r1
 obtain ⟨its,rv,pl,hz⟩:=I.list hq
 obtain rfl:=Zf2 bs its rv
 have la:a<s.heap.objs.size:=by
  obtain ⟨o,_,ho,_⟩:=pl
  exact Heap.lt_size ho
 refine call_all_walk (wpAny_pyIter_list pl.isList ?_)
 refine ⟨s.heap.objs.size,_,_,_,_,_,fun i=>bs.getD i true,rfl,Walks.list (A:=X.A.in1) (I.ok.hd hc) s.heap.objs.size a (Nat.ne_of_lt la) (bs.map Value.bool).toArray,⟨⟨_,Heap.get?_push_size _ rfl,rfl,rfl⟩,?_⟩,?_,fun h' tk k=>?_⟩
 ·exact pl.isList.at fun o e=>Heap.get?_push_of_some _ e
 ·intro i v s2 Q2 E2 hP hQ
  have e:v=.bool (bs.getD i true):=by
   rw [List.getElem?_toArray,List.getElem?_map] at hP
   cases q:bs[i]? with
   | none=>rw [q] at hP;cases hP
   | some b =>
    rw [q] at hP
    cases hP
    rw [List.getD_eq_getElem?_getD,q];rfl
  subst e
  exact wpAny_pure hQ
 ·have e:(List.range (bs.map Value.bool).toArray.size).all (fun i=>bs.getD i true)=bs.all id:=by
   rw [List.size_toArray,List.length_map];exact all_range bs
  rw [e]
  exact ⟨.bl (bs.all id),H,I.kept fun b o z=>k b o (by simp;exact Nat.ne_of_lt (Heap.lt_size z)) (Heap.get?_push_of_some _ z),rfl,q⟩
theorem ZiF{K:W.Frag}{mg:Str→Option Value}{F:Hp}:∀{xs:List V} {ds:List D} {bs:List Bool},Rps K mg F xs ds→bools ds=.ok bs→xs=bs.map V.bl
 | _,_,_,.nil,e=>by cases e;rfl
 | _,_,bs,.cons (d:=d) (ds:=ds) h r,e=>by
  unfold bools at e
  cases d with
  | bl b =>
   cases q:bools ds with
   | ok bs' =>
    simp only [q,Res.bind] at e
    cases e
    cases h
    rw [List.map_cons,ZiF r q]
   | ex c=>simp only [q,Res.bind] at e;cases e
   | bad=>simp only [q,Res.bind] at e;cases e
  | _=>cases e
theorem ZiR{c:Str}:∀ds:List D,bools ds≠.ex c
 | [],h=>by cases h
 | d::r,h=>by
  unfold bools at h
  cases d with
  | bl b =>
   cases q:bools r with
   | ok bs'=>simp only [q,Res.bind] at h;cases h
   | ex c'=>exact ZiR r q
   | bad=>simp only [q,Res.bind] at h;cases h
  | _=>cases h
theorem Zd6{K:W.Frag}{mg:Str→Option Value}:CallD K mg (rAll K) bAll:=by
 intro E F H xs ds s r
 unfold bAll
 split
 ·next d =>
  obtain ⟨x,rfl,rx⟩:=r.one
  cases d with
  | lst es =>
   cases rx with
   | lst h rs =>
    show Ans mg E (Rp K mg) F H ((bools es).bind fun bs=>.ok (.bl (bs.all id))) _
    cases q:bools es with
    | ok bs =>
     have e:=ZiF rs q
     subst e
     exact Ans.ret s (.bl _) fun Q z=>⟨_,bs,rfl,s.seq h,z⟩
    | ex c=>exact absurd q (ZiR es)
    | bad=>trivial
  | _=>trivial
 ·trivial
theorem Zjr{x:Str}{C:Addr}{pos:Pos}(hg:Gl X x)(hm:X.mg x=some (.ref C))(hd:(x==("__debug__" : Str))=false:=by decide):DE X E (.Name x pos) (tC (.ref C)) (c (.cls x)):=⟨Zfo hg hm rfl hd,se_c fun _=>.cls hm⟩
end
section
variable{K:W.Frag}{mg:Str→Option Value}{E:XK}{i:Nat}
theorem Zn8{t:TA}{m:MA}{n:Nat}(ha:SA K mg E t m)(hl:SAn n m)(hn:n≤sizeLine):SS K mg E (tAsg (tLst t) (ZeE i)) (stO i (mls m)):=by
 intro F0 H0 F H σ ρ rr
 have h:=ha F0 H0 F H σ ρ rr
 unfold stO mls
 cases e:m ρ with
 | ok ds =>
  rw [e] at h
  exact fun D q=>h _ fun F' H' xs g rs=>⟨by rw [rs.length,hl ρ ds e];exact hn,fun p hp=>q F' _ _ g.f ((rr.gr g).own i hp rs)⟩
 | ex c =>
  rw [e] at h
  exact fun D q=>h _ fun F' H' C g hC=>q F' H' C (rr.g.trans g) hC
 | bad=>trivial
end
section
variable{X:Cx}{E:XK}{a b e c' tg iter elt:Expr}{es ts:List Expr}{ta tb tc te:TE}{ma mb mc me:ME}{sa sb:TT}{na nb:MB}{t:TA}{m:MA}{pos spos pos':Pos}{n i j:Nat}{x y:Str}
theorem Zn9(hN:X.N.Nodup)(hi:X.N[i]?=some x)(hx:Loc X.env.scope x)(ha:DA X E n es t m)(hn:n≤sizeLine:=by decide)(hs:swapsWith (.List es pos) (some (.Name x pos')) spos.line X.env=pure false:=by rfl)(hf:X.fn x=true∨X.env.scope.names.lookup x=some .local:=by first | exact .inl rfl | exact .inr rfl | assumption) :
  DS X E (.Assign [.Name x pos'] (.List es pos) spos) (tAsg (tLst t) (ZeE i)) (stO i (mls m)):=⟨Zkl hN hi hx (Zhb ha.p) hs hf,Zn8 ha.s ha.n hn⟩
theorem Zl9(i:Nat){np apos cpos:Pos}(he:DE X E e te me)(hN:X.N[i]?=some x:=by rfl)(hv:Vis X.env.scope x:=by first | exact Or.inl rfl | exact Or.inr (Or.inl rfl) | exact Or.inr (Or.inr rfl))(hd:(x==("__debug__" : Str))=false:=by decide)
  (hcd:(x==("__classdict__" : Str))=false:=by decide) (hbase:attributeBase (.Name x np) "append" X.env (eval (.Name x np) X.env)=eval (.Name x np) X.env:=by rfl)
  (hfew:((backTo cpos (starEach [e] X.env)).all (fun x=>!x.1)&&(backToKw cpos (keywordEach [] X.env)).all (fun x=>x.1.isSome)
   && decide ([e].length+([]:List Keyword).length+(if ([]:List Keyword).isEmpty then 0 else 1)<30))=true:=by rfl)
  (hline:(apos.endLine==cpos.line)=true:=by rfl) (hs:starEach [e] X.env=(false,eval e X.env)::starEach [] X.env:=by rfl) (hplain:(backTo cpos (starEach [] X.env)).any (·.1)=false:=by rfl)
  (hsw:swapsWith (.Call (.Attribute (.Name x np) "append" apos) [e] [] cpos) none spos.line X.env=pure false:=by rfl) :
  DS X E (.Expr (.Call (.Attribute (.Name x np) "append" apos) [e] [] cpos) spos) (ZfR (tBM X.K "list" Zdo (tVar i) (ZdA te tNil))) (app i me) :=
 ⟨Zer (Zlu PySem.F.plainAttrs_list PySem.F.slot_list_append PySem.F.type_list_append Zfx (ZdC hN hv hd hcd) (Zcs he.p ZdE hs) hbase hfew hline hs hplain) hsw,
  Zp2 he.s fun H a xs h=>.inl ⟨rfl,xs,SqL.of h⟩⟩
end
end L2.Ds
namespace L2
open PySem PySem.Spec PyProof.Rows PySem.Calls
end L2
namespace L2.Ds
open PySem PySem.Spec PyProof.Rows Dl
section
variable{K:W.Frag}{mg:Str→Option Value}
def del(F:Hp)(a:Addr):Hp:=fun b=>if b=a then none else F b
theorem Zip{F:Hp}{a:Addr}:del F a a=none:=if_pos rfl
theorem Zga{F:Hp}{a b:Addr}(h:b≠a):del F a b=F b:=if_neg h
end
section
variable{X:Cx}{pins:List (Addr×Obj)}{σ:St}{H:Hp}{s:Shared}
mutual
theorem Zmu(I:Inv X pins σ H s):∀{x:V} {d d':PyData},DV X.K H x d→DV X.K H x d'→d=d'
 | _,_,_,.non,.non=>rfl
 | _,_,_,.bl _,.bl _=>rfl
 | _,_,_,.int _,.int _=>rfl
 | _,_,_,.str _,.str _=>rfl
 | _,_,_,.tup h q,.tup h' q'=>by
  have e:=I.tuple_inj h h'
  subst e
  rw [ZhN I q q']
 | _,_,_,.lst h q,.lst h' q'=>by
  have e:=I.list_inj h h'
  subst e
  rw [ZhN I q q']
 | _,_,_,.tup h q,.lst h' q'=>by
  obtain ⟨_,_,⟨o,e1,e2,_⟩,_⟩:=I.tuple h
  obtain ⟨_,_,⟨o',_,e1',e2',_⟩,_⟩:=I.list h'
  rw [e1] at e1';cases e1'
  rw [e2] at e2';simp at e2'
 | _,_,_,.lst h q,.tup h' q'=>by
  obtain ⟨_,_,⟨o,e1,e2,_⟩,_⟩:=I.tuple h'
  obtain ⟨_,_,⟨o',_,e1',e2',_⟩,_⟩:=I.list h
  rw [e1] at e1';cases e1'
  rw [e2] at e2';simp at e2'
theorem ZhN(I:Inv X pins σ H s):∀{xs:List V} {ds ds':List PyData},DVs X.K H xs ds→DVs X.K H xs ds'→ds=ds'
 | _,_,_,.nil,.nil=>rfl
 | _,_,_,.cons h r,.cons h' r'=>by rw [Zmu I h h',ZhN I r r']
end
def hitE(X:Cx)(H:Hp)(dx:PyData)(u:Value):Bool:=@decide (∃y d,RelV y u∧DV X.K H y d∧PyData.eqv d dx=true) (Classical.propDecidable _)
theorem ZhQ(I:Inv X pins σ H s){dx d:PyData}{u:Value}{y:V}(r:RelV y u)(h:DV X.K H y d):hitE X H dx u=PyData.eqv d dx:=by
 unfold hitE
 cases e:PyData.eqv d dx with
 | true=>exact @decide_eq_true _ (Classical.propDecidable _) ⟨y,d,r,h,e⟩
 | false =>
  refine @decide_eq_false _ (Classical.propDecidable _) ?_
  rintro ⟨y',d',r',h',e'⟩
  have ey:=r.inj r'
  subst ey
  rw [Zmu I h h',e'] at e
  cases e
theorem Zfy(I:Inv X pins σ H s){dx:PyData}:∀{ys:List V} {its:List Value} {ds:List PyData},Vals ys its→DVs X.K H ys ds→its.any (hitE X H dx)=ds.any fun d=>PyData.eqv d dx
 | _,_,_,.nil,.nil=>rfl
 | _,_,_,.cons r1 r2,.cons h1 h2=>by rw [List.any_cons,List.any_cons,Zfy I r2 h2,ZhQ I r1 h1]
theorem ZkG(I:Inv X pins σ H s):∀{ys:List V} {its:List Value} {ds:List PyData} {u:Value},Vals ys its→DVs X.K H ys ds→PyData.canLayAll0 ds=true→u∈its→∃y d,RelV y u∧DV X.K H y d∧d.canLay0=true
 | _,_,_,_,.nil,.nil,_,hu=>by cases hu
 | _,_,_,u,.cons r1 r2,.cons h1 h2,hc,hu=>by
  have hc':=(show PyData.canLay0 _=true∧PyData.canLayAll0 _=true by simpa [PyData.canLayAll0] using hc)
  rcases List.mem_cons.mp hu with rfl | hu
  ·exact ⟨_,_,r1,h1,hc'.1⟩
  ·exact ZkG I r2 h2 hc'.2 hu
def rInD(K:W.Frag)(f:Bool→Bool):R2:=fun x y H Q=>∃a ys dx dys,y=.ref a∧(SqL K H a ys∨SqT K H a ys)∧DV K H x dx∧DVs K H ys dys∧dx.canLay0=true∧PyData.canLayAll0 dys=true∧dx.depth≤50∧Q (.bl (f (dys.any fun d=>PyData.eqv d dx))) H
end
section
variable{X:Cx}{E:XK}
theorem ZoZ(hu:X.A.units+64<cLine):OpR X (compareOp .In) (rInD X.K id):=by
 intro pins s σ H x y v u Q I rx ry h
 obtain ⟨a,ys,dx,dys,rfl,hq,h1,h2,h3,h4,h5,q⟩:=h
 cases ry
 obtain ⟨bs,rb⟩:=h1.reads I rx
 have eq:∀{its:List Value},Vals ys its→∀u,u∈its.toArray→PySem.SeqAt.EqAt X.A.in1 s u v (hitE X H dx u):=fun {its} rv u hm=>by
  obtain ⟨y',d',r',h',c'⟩:=ZkG I rv h2 h4 (by simpa using hm)
  obtain ⟨as,ra⟩:=h'.reads I r'
  rw [ZhQ I r' h']
  exact PySem.SeqAt.eqAt_reads d' dx X.A.in1 s u v as bs ra rb c' h3 (by show X.A.units+1+_<_;omega)
 rcases hq with hq | hq
 ·obtain ⟨its,rv,pl,hz⟩:=I.list hq
  refine PySem.SeqAt.in_listAt (hitE X H dx) pl.isList (eq rv) ?_
  have e:its.toArray.any (hitE X H dx)=dys.any fun d=>PyData.eqv d dx:=by rw [List.any_toArray];exact Zfy I rv h2
  rw [e]
  exact ⟨.bl _,H,I,rfl,q⟩
 ·obtain ⟨its,rv,pl,hz⟩:=I.tuple hq
  refine PySem.SeqAt.in_tupleAt (hitE X H dx) (show s.heap.IsTuple a its.toArray from pl) (eq rv) ?_
  have e:its.toArray.any (hitE X H dx)=dys.any fun d=>PyData.eqv d dx:=by rw [List.any_toArray];exact Zfy I rv h2
  rw [e]
  exact ⟨.bl _,H,I,rfl,q⟩
theorem Zn7(hu:X.A.units+64<cLine):OpR X (compareOp .NotIn) (rInD X.K not):=by
 intro pins s σ H x y v u Q I rx ry h
 obtain ⟨a,ys,dx,dys,rfl,hq,h1,h2,h3,h4,h5,q⟩:=h
 cases ry
 obtain ⟨bs,rb⟩:=h1.reads I rx
 have eq:∀{its:List Value},Vals ys its→∀u,u∈its.toArray→PySem.SeqAt.EqAt X.A.in1 s u v (hitE X H dx u):=fun {its} rv u hm=>by
  obtain ⟨y',d',r',h',c'⟩:=ZkG I rv h2 h4 (by simpa using hm)
  obtain ⟨as,ra⟩:=h'.reads I r'
  rw [ZhQ I r' h']
  exact PySem.SeqAt.eqAt_reads d' dx X.A.in1 s u v as bs ra rb c' h3 (by show X.A.units+1+_<_;omega)
 rcases hq with hq | hq
 ·obtain ⟨its,rv,pl,hz⟩:=I.list hq
  refine PySem.SeqAt.notIn_listAt (hitE X H dx) pl.isList (eq rv) ?_
  have e:its.toArray.any (hitE X H dx)=dys.any fun d=>PyData.eqv d dx:=by rw [List.any_toArray];exact Zfy I rv h2
  rw [e]
  exact ⟨.bl _,H,I,rfl,q⟩
 ·obtain ⟨its,rv,pl,hz⟩:=I.tuple hq
  refine PySem.SeqAt.notIn_tupleAt (hitE X H dx) (show s.heap.IsTuple a its.toArray from pl) (eq rv) ?_
  have e:its.toArray.any (hitE X H dx)=dys.any fun d=>PyData.eqv d dx:=by rw [List.any_toArray];exact Zfy I rv h2
  rw [e]
  exact ⟨.bl _,H,I,rfl,q⟩
theorem Zmf(x:D)(k:Nat)(hx:Dl.plain k x=true):∀(ys:List D) (l:Nat),Dl.ZaF l ys=true→((pyDs ys).any fun d=>PyData.eqv d (pyD x))=inD x ys
 | [],_,_=>rfl
 | y::r,l,h=>by
  have h':Dl.plain l y=true∧Dl.ZaF l r=true:=by simpa [Dl.ZaF] using h
  show (PyData.eqv (pyD y) (pyD x)||(pyDs r).any _)=(eqD y x||inD x r)
  rw [Zmf x k hx r l h'.2,←Ziq y x l k h'.1 hx]
theorem ZkH{K:W.Frag}{mg:Str→Option Value}{f:Bool→Bool}{E:XK}{F H:Hp}{x y:V}{dx dy:D}(s:Same F H)(rx:Rp K mg F x dx)(ry:Rp K mg F y dy) :
  Ans mg E (Rp K mg) F H ((seqD dy).bind fun ys=>if Dl.plain 50 dx&&Dl.ZaF 50 ys then .ok (.bl (f (inD dx ys))) else .bad) (rInD K f x y H):=by
 have fin:∀(a:Addr) (ws:List V) (ys:List D),y=.ref a→(SqL K H a ws∨SqT K H a ws)→Rps K mg F ws ys→Ans mg E (Rp K mg) F H (if Dl.plain 50 dx&&Dl.ZaF 50 ys then .ok (.bl (f (inD dx ys))) else .bad) (rInD K f x y H):=by
  rintro a ws ys rfl hq rs
  by_cases hp:(Dl.plain 50 dx&&Dl.ZaF 50 ys)=true
  ·rw [if_pos hp]
   rw [Bool.and_eq_true] at hp
   obtain ⟨c1,c2⟩:=Zdv dx 50 hp.1
   obtain ⟨c3,_⟩:=Zem ys 50 hp.2
   refine Ans.ret s (.bl _) fun Q q=>⟨a,ws,pyD dx,pyDs ys,rfl,hq,ZeD s (ZiY rx hp.1),ZeY s (ZgB rs hp.2),c1,c3,c2,?_⟩
   rw [Zmf dx 50 hp.1 ys 50 hp.2]
   exact q
  ·rw [if_neg hp];trivial
 cases dy with
 | lst ys =>
  cases ry with
  | lst h r=>exact fin _ _ ys rfl (.inl (s.seq h)) r
 | tup ys =>
  cases ry with
  | tup h r=>exact fin _ _ ys rfl (.inr (ZaO s h)) r
 | _=>trivial
theorem Zo3{K:W.Frag}{mg:Str→Option Value}:OpD K mg (rInD K id) dIn:=fun _ _ _ _ _ _ _ s rx ry=>ZkH (f:=id) s rx ry
theorem Zn5{K:W.Frag}{mg:Str→Option Value}:OpD K mg (rInD K not) dNin:=fun _ _ _ _ _ _ _ s rx ry=>ZkH (f:=not) s rx ry
variable{a b:Expr}{ta tb:TE}{ma mb:ME}{pos:Pos}
theorem ZqR{k:Nat}(hr:Room k X.A)(ha:DE X E a ta ma)(hb:DE X E b tb mb)(hm:behindInMarks .In b=false:=by rfl):DT X E (.Compare a [.In] [b] pos) (Zd3 (tOp (rInD X.K id) ta tb)) (trb (o2 dIn ma mb)):=Zd8 (ZoZ hr.units) Zo3 ha hb hm
theorem Zml{k:Nat}(hr:Room k X.A)(ha:DE X E a ta ma)(hb:DE X E b tb mb)(hm:behindInMarks .NotIn b=false:=by rfl):DT X E (.Compare a [.NotIn] [b] pos) (Zd3 (tOp (rInD X.K not) ta tb)) (trb (o2 dNin ma mb)):=Zd8 (Zn7 hr.units) Zn5 ha hb hm
end
end L2.Ds
namespace Dl
open PySem
end Dl
namespace L2.Ds
open PySem PySem.Spec PyProof.Rows Dl
end L2.Ds
namespace L2
open PySem PySem.Spec PyProof.Rows
end L2
namespace L2.Ds
open PySem PySem.Spec PyProof.Rows Dl
end L2.Ds
namespace Dl
open PySem
end Dl
namespace L2
open PySem PySem.Spec PyProof.Rows PySem.Calls
end L2
namespace L2.Ds
open PySem PySem.Spec PyProof.Rows PySem.Calls Dl
end L2.Ds
namespace Dl
open PySem
end Dl
namespace L2
open PySem PySem.Spec PyProof.Rows
end L2
namespace L2.Ds
open PySem PySem.Spec PyProof.Rows PySem.Calls Dl
def GTup(K:W.Frag)(mg:Str→Option Value)(x:Str)(ns:List Int):Prop:=∃(a:Addr) (o:Obj) (its:Array Value) (n:Nat),mg x=some (.ref a)∧K.lookup a=some o∧o.cls=.type "tuple"∧o.data=.seq its n∧its.size≤sizeLine∧Vals (ns.map V.int) its.toList
theorem ZhL{K:W.Frag}{mg:Str→Option Value}{F:Hp}:∀ns:List Int,Rps K mg F (ns.map V.int) (ns.map D.int)
 | []=>.nil
 | n::r=>.cons (.int n) (ZhL r)
section
variable{X:Cx}{E:XK}{a b c e tg:Expr}{es:List Expr}{t:TA}{m:MA}{n:Nat}{tb:TE}{mb:ME}{pos p lpos:Pos}
theorem Zl6{x:Str}{ns:List Int}{A:Addr}{o:Obj}{its:Array Value}{n:Nat}(hg:Gl X x)(hm:X.mg x=some (.ref A))(h1:X.K.lookup A=some o)(h2:o.cls=.type "tuple")(h3:o.data=.seq its n)(h4:its.size≤sizeLine)(h5:Vals (ns.map V.int) its.toList)(hd:(x==("__debug__" : Str))=false:=by decide) :
  DE X E (.Name x pos) (tC (.ref A)) (Dl.c (.tup (ns.map .int))):=⟨Zfo hg hm rfl hd,se_c fun _=>.tup (.inr ⟨o,its,n,h1,h2,h3,h4,h5⟩) (ZhL ns)⟩
end
end L2.Ds
namespace Dl
open PySem
end Dl
namespace L2.Ds
open PySem PySem.Spec PyProof.Rows PySem.Calls Dl
end L2.Ds
namespace Dl
open PySem
end Dl
namespace L2.Ds
open PySem PySem.Spec PyProof.Rows Dl
end L2.Ds
namespace Dl
open PySem
def Zi4(it:MI)(own:Nat)(cap:List Nat)(g:MG)(t:MB)(e:ME):ME:=fun ρ=>(it ρ).bind fun xs =>
 if xs.length≤LIM then (Zao g t e (noA own (capD ρ cap)) xs).bind fun ys=>.ok (.lst ys) else .bad
end Dl
namespace L2
open PySem PySem.Spec PyProof.Rows
section
variable{M:Model}{A:Around}{E:Value→Shared→Prop}{s:Shared}{B:Heap}{env cenv:Env}{outer l:List Env}{L e:Addr}{cls a0 fl:Value}
theorem Zf7{h h' B':Heap}{C:Addr}(sB:∀b o,B'.get? b=some o→B.get? b=some o)(k:∀b o,b≠C→h.get? b=some o→h'.get? b=some o):∀{l:List Env},C∉frs l→h.FunFrames B l→h'.FunFrames B' l
 | [],_,_=>trivial
 | v::r,hC,⟨h1,⟨L,o,h2,h3,h4,h5⟩,h6⟩=>by
  have nC:L≠C∧C∉frs r:=by
   unfold frs at hC ⊢
   rw [List.filterMap_cons,h2] at hC
   exact ⟨fun z=>hC (z▸List.mem_cons_self),fun z=>hC (List.mem_cons_of_mem _ z)⟩
  refine ⟨h1,⟨L,o,h2,?_,k L o nC.1 h4,h5⟩,Zf7 sB k nC.2 h6⟩
  cases q:B'.get? L with
  | none=>rfl
  | some u=>rw [sB L u q] at h3;cases h3
theorem ZeQ{Q:Unit→Shared→Prop}(hfr:A.frames=some (env::outer))(hf:env.frame=some L)(hkb:B.StaysIn s.heap)(hen:B.get? e=none)(hl:s.heap.FunFrames B (env::outer))(ht:s.heap.TracedAtW B e cls a0 fl)
  (hQ:∀h',Heap.FlyingW B outer e cls a0 h'→s.heap.UpToSlots h'→Q () { s with heap:=h' }):wpAny M A (leaving env (.ref e)) Q E s:=by
 by_cases hfl:fl=rawInt L
 ·subst hfl
  unfold leaving
  refine wpAny_bind (wpAny_noteFrame_againW hf ht ?_)
  refine wpAny_landsW (L:=L) ⟨hkb,hen,hl,ht⟩ fun h' x1 sm=>?_
  obtain ⟨k1,k2,⟨_,_,k3⟩,k4⟩:=x1
  exact hQ h' ⟨k1,k2,k3,k4⟩ sm
 ·obtain ⟨oe,vs,T,oT,ts,he,⟨hcls,h0⟩,hd,h1,hnT,hTe,hT,hdT,h3⟩:=ht
  subst hcls
  have away:∀b,b≠T→(s.heap.update T (Obj.mapFields (·.setIfInBounds 3 Value.none))).get? b=s.heap.get? b:=fun b hb=>Heap.get?_update_other _ _ (Ne.symm hb)
  have neT:∀b o,s.heap.get? b=some o→(∀vs,o.data≠.fields vs)→b≠T:=fun b o hb hnf q=>by
   rw [q,hT] at hb
   cases hb
   exact hnf ts hdT
  unfold leaving noteFrame
  simp only [hf]
  refine wpAny_bind (wpAny_bind (wpAny_field he hd h1 ?_))
  rw [if_pos (show (Value.ref T != Value.none)=true from by simp)]
  refine wpAny_bind (wpAny_field hT hdT h3 ?_)
  rw [if_neg (show ¬((fl==rawInt L)=true) from by simpa using hfl)]
  refine wpAny_bind (wpAny_setField hT hdT (Array.getElem?_eq_some_iff.mp h3).1 ?_)
  refine wpAny_newEntryW hfr (hl.of_keeps fun b o hb hnf=>⟨o,(away b (neT b o hb hnf)).trans hb,rfl⟩) hf ((away e (Ne.symm hTe)).trans he) (fun b o hbo=>(away b fun q=>by rw [q,hnT] at hbo;cases hbo).trans (hkb b o hbo)) hen hd (Array.getElem?_eq_some_iff.mp h1).1 h0 fun h' x=>?_
  obtain ⟨x1,⟨_,_,x2⟩,x3,x4⟩:=x
  exact hQ h' ⟨x1,hen,x2,x3⟩ fun b o hb hnf=>x4 b o ((away b (neT b o hb hnf)).trans hb) hnf
theorem Zfr{what:String}(hkb:B.StaysIn s.heap)(hl:s.heap.FunFrames B l)(ht:s.heap.TracedAtW B e cls a0 fl)
  (h:∀h' fl',B.StaysIn h'→h'.FunFrames B l→h'.TracedAtW B e cls a0 fl'→(∀b o,s.heap.get? b=some o→(∀vs,o.data≠.fields vs)→h'.get? b=some o)→E (.ref e) { s with heap:=h' }) :
  wpAny M A (PySem.passOn what (.ref e) cenv:Sem Value) (fun _ _=>False) E s:=by
 obtain ⟨oe,vs,T,oT,ts,he,hcls,hd,h1,hnT,hTe,hT,hdT,h3⟩:=ht
 have sz:3<ts.size:=(Array.getElem?_eq_some_iff.mp h3).1
 have away:∀b,b≠T→(s.heap.update T (Obj.mapFields (·.setIfInBounds 3 (cenv.frame.elim Value.none fun f=>rawInt f)))).get? b=s.heap.get? b:=fun b hb=>Heap.get?_update_other _ _ (Ne.symm hb)
 have neT:∀b o,s.heap.get? b=some o→(∀vs,o.data≠.fields vs)→b≠T:=fun b o hb hnf q=>by
  rw [q,hT] at hb
  cases hb
  exact hnf ts hdT
 unfold PySem.passOn
 refine wpAny_bind (wpAny_field he hd h1 ?_)
 rw [if_neg (show ¬((Value.ref T==Value.none)=true) from by simp)]
 refine wpAny_bind ?_
 unfold setFlight
 refine wpAny_bind (wpAny_field he hd h1 ?_)
 rw [if_pos (show (Value.ref T != Value.none)=true from by simp)]
 refine wpAny_setField hT hdT sz ?_
 refine wpAny_throw ?_
 refine h _ (cenv.frame.elim Value.none fun f=>rawInt f) (fun b o hbo=>(away b fun q=>by rw [q,hnT] at hbo;cases hbo).trans (hkb b o hbo)) (hl.of_keeps fun b o hb hnf=>⟨o,(away b (neT b o hb hnf)).trans hb,rfl⟩) ?_ fun b o hb hnf=>(away b (neT b o hb hnf)).trans hb
 exact ⟨oe,vs,T,_,_,(away e (Ne.symm hTe)).trans he,hcls,hd,h1,hnT,hTe,Heap.get?_update_self _ hT (Obj.isFreed_of_fields (Obj.data_mapFields hdT _)),Obj.data_mapFields hdT _,by simp [sz]⟩
end
theorem Zm9{P:Program}{w:World}{l l':List Env}{H H':Hp}{s s':Shared}{x:Addr}{cls a0:Value}{B h':Heap}(os:s'.os=s.os)(bare:AllBare s'.gens)(un:Un (frs l) [] H H' s.heap s'.heap)(hok:HOk P w H' s'.heap)
  (frf:∀b∈frs l,H' b=none) (nf:∀b∈frs l,∃o,s'.heap.get? b=some o∧∀vs,o.data≠.fields vs)
  (cov:∀b o,s'.heap.get? b=some o→(H' b≠none∨∃o',s.heap.get? b=some o')→b∉frs l→B.get? b=some o)
  (sub:∀b∈frs l',b∈frs l) (new:∀b∈frs l,b∉frs l'→s.heap.get? b=none) (fl:Heap.FlyingW B l' x cls a0 h') (sm:∀b∈frs l,∀o,s'.heap.get? b=some o→(∀vs,o.data≠.fields vs)→∃sl,h'.get? b=some { o with slots:=sl }) (free:H' x=none) :
  Fly P w l' H H' s { s' with heap:=h' } x cls:=by
 have stay:∀b o,s'.heap.get? b=some o→(H' b≠none∨∃o',s.heap.get? b=some o')→b∉frs l→h'.get? b=some o:=fun b o e q hb=>fl.1 b o (cov b o e q hb)
 have out:∀{b:Addr} {o:Obj},s.heap.get? b=some o→b∉frs l'→b∉frs l:=fun {b o} e hb z=>by
  rw [new b z hb] at e;cases e
 refine ⟨os,bare,⟨fun b o e n hb hx=>?_,fun b o e n hb hx=>?_,un.free,fun b o e hx=>?_,un.tups,un.frzs,un.tbls⟩,fun a o e=>?_,fun b hb=>frf b (sub b hb),free,B,a0,fl,fun b o e q hb=>?_⟩
 ·exact stay b o (un.keep b o e n (out e hb) hx) (.inr ⟨o,e⟩) (out e hb)
 ·obtain ⟨sl,q⟩:=un.slot b o e n (sub b hb) hx
  obtain ⟨o1,q1,d1⟩:=nf b (sub b hb)
  rw [q] at q1;cases q1
  obtain ⟨sl',q2⟩:=sm b (sub b hb) _ q d1
  exact ⟨sl',q2⟩
 ·obtain ⟨o',q⟩:=un.there b o e hx
  by_cases hb:b∈frs l
  ·obtain ⟨o1,q1,d1⟩:=nf b hb
   obtain ⟨sl',q2⟩:=sm b hb _ q1 d1
   exact ⟨_,q2⟩
  ·exact ⟨o',stay b o' q (.inr ⟨o,e⟩) hb⟩
 ·refine (hok a o e).stay (fun b u hb q=>?_) (fun _ q=>q) fun _ _ q=>q
  have tr:H' b≠none:=by
   rcases hb with rfl | hb
   ·rw [e];simp
   ·rw [hb];simp
  exact stay b u q (.inl tr) fun z=>tr (frf b z)
 ·have hb':b∉frs l:=by
   intro z
   rcases q with q | ⟨o',q⟩
   ·exact q (frf b z)
   ·exact out q hb z
  have ⟨o1,q1⟩ : ∃o1,s'.heap.get? b=some o1:=by
   rcases q with q | ⟨o',q⟩
   ·cases z:H' b with
    | none=>exact absurd z q
    | some u=>exact (hok b u z).there
   ·exact un.there b o' q (by simp)
  have c:=cov b o1 q1 q hb'
  have z:=fl.1 b o1 c
  have e':h'.get? b=some o:=e
  rw [e'] at z;cases z
  exact c
def xfE(E:XK)(X:Cx):Addr→Shared→Hp→List Addr→Value→Shared→Prop:=fun C s H fp e s'=>∃H6 s6,s6.os=s.os∧Un (frs X.stack) fp H H6 s.heap s6.heap∧(∃m,s6.heap.Ns C m)∧H6 C=none∧CXR X.prog X.w X.stack H6 s6 E e s'
theorem ZmO{X:Cx}{E:XK}{N:List Str}{scope:Scope}{cl:List (Str×Addr)}{C:Addr}{s:Shared}{H:Hp}{fp:List Addr}{pn:List (Addr×Obj)}:Zch (CXR X.prog X.w) (ZaA (xfE E X) X N scope cl C s H fp pn) E:=by
 intro pins σ H6 s6 e s' I h
 obtain ⟨m,hn,_⟩:=I.loc
 exact ⟨H6,s6,I.os,I.base,⟨m,hn⟩,I.free,h⟩
section
variable{X:Cx}{E:XK}{pins:List (Addr×Obj)}{σ:St}{H:Hp}{s s7:Shared}{fp:List Addr}{scope:Scope}{cells:List (Str×Addr)}{C:Addr}{e acc:Value}{use:Option (Value→Sem Unit)}{Q:Value→Shared→Prop}
theorem Un.strip{fs ex:List Addr}{H H1:Hp}{h h1:Heap}(u:Un fs ex H H1 h h1)(n:∀b∈ex,h.get? b=none):Un fs [] H H1 h h1:=by
 have no:∀{b:Addr} {o:Obj},h.get? b=some o→b∉ex:=fun {b o} e z=>by rw [n b z] at e;cases e
 exact ⟨fun b o e q1 q2 _=>u.keep b o e q1 q2 (no e),fun b o e q1 q2 _=>u.slot b o e q1 q2 (no e),fun b o e q1 _=>u.free b o e q1 (no e),fun b o e _=>u.there b o e (no e),u.tups,u.frzs,u.tbls⟩
theorem ZkP(hst:X.stack=X.env::X.outer)(hfr:X.env.frame=some X.env.locals)(hex:X.ex=[])
  (hxe:X.xe=fun e s'=>wpAny (model X.prog X.w) X.A (leaving X.env e) (fun _ s''=>CXR X.prog X.w X.outer X.H₀ X.s₀ E e s'') (fun e' s''=>CXR X.prog X.w X.outer X.H₀ X.s₀ E e' s'') s')
  (I:Inv X pins σ H s) (fpn:∀b∈fp,X.s₀.heap.objs.size≤b) (hC:s.heap.objs.size≤C) (h:xfE E X C s H fp e s7) :
  notedBy (model X.prog X.w) X.A (compEnvC scope cells C X.env) (fun e s'=>compPost (model X.prog X.w) X.A X.xe use Q acc C (.error e) s') e s7:=by
 obtain ⟨H6,s6,os6,un6,⟨m,oc,es,ep,ho,hd,hk⟩,fC,x,cls,H',rfl,F,q⟩:=h
 obtain ⟨B,a0,fl,cov⟩:=F.ex
 have nfC:C∉frs X.stack:=fun z=>by
  rcases List.mem_cons.mp (I.stkSub C z) with q | q
  ·exact absurd (Nat.lt_of_lt_of_le I.lt hC) (by rw [q];exact Nat.lt_irrefl _)
  ·exact I.nofs hC q
 have C7:s7.heap.get? C=some oc:=F.un.keep C oc ho fC nfC (by simp)
 have nC7:H' C=none:=F.un.free C oc ho fC (by simp)
 have C0:X.s₀.heap.get? C=none:=Heap.get?_none_of_le (Nat.le_trans I.sz hC)
 have ns7:s7.heap.Ns C m:=⟨oc,es,ep,C7,hd,hk⟩
 show wpAny _ _ (noteFrame (.ref x) X.env) _ _ s7
 refine wpAny_looks_onW (outer:=X.outer) (by rw [←hst];exact I.ok.frames) hfr (by rw [←hst];exact fl) fun h8 held sm8=>?_
 obtain ⟨k1,k2,k3,k4⟩:=held
 refine ⟨m,sm8.ns ns7,fun h9 sb cenv' _=>?_⟩
 have kb9:∀b o,b≠C→h8.get? b=some o→h9.get? b=some o:=fun b o hb z=>sb.extBut b o hb z
 obtain ⟨sl8,C8⟩:=sm8 C oc C7 fun vs z=>by rw [hd] at z;cases z
 have neF:∀{b:Addr} {o:Obj} {vs:Array Value},h8.get? b=some o→o.data=.fields vs→b≠C:=fun {b o vs} z1 z2 z3=>by
  rw [z3,C8] at z1
  cases z1
  have z2':oc.data=.fields vs:=z2
  rw [hd] at z2'
  cases z2'
 have hide:∀b o,(W.hideAll B [C]).get? b=some o→B.get? b=some o:=fun b o z=>W.of_hideAll _ z
 have hideC:∀b o,(W.hideAll B [C]).get? b=some o→b≠C:=fun b o z1 z2=>by
  rw [z2,W.hideAll_none [C] (by simp)] at z1
  cases z1
 have t9:h9.TracedAtW (W.hideAll B [C]) x cls a0 (rawInt X.env.locals):=by
  obtain ⟨oe,vs,T,oT,ts,he,hc,hd,h1,hnT,hTe,hT,hdT,h3⟩:=k4
  refine ⟨oe,vs,T,oT,ts,kb9 _ _ (neF he hd) he,hc,hd,h1,?_,hTe,kb9 _ _ (neF hT hdT) hT,hdT,h3⟩
  cases z:(W.hideAll B [C]).get? T with
  | none=>rfl
  | some u=>rw [hide _ _ z] at hnT;cases hnT
 have st9:(W.hideAll B [C]).StaysIn h9:=fun b o z=>kb9 b o (hideC b o z) (k1 b o (hide b o z))
 have en9:(W.hideAll B [C]).get? x=none:=by
  cases z:(W.hideAll B [C]).get? x with
  | none=>rfl
  | some u=>rw [hide _ _ z] at k2;cases k2
 have f9:h9.FunFrames (W.hideAll B [C]) (X.env::X.outer):=Zf7 hide kb9 (by rw [←hst];exact nfC) k3
 refine Zfr (l:=X.env::X.outer) st9 f9 t9 fun h10 fl' st10 f10 t10 sm10=>?_
 rw [hxe]
 refine ZeQ (by rw [←hst];exact I.ok.frames) hfr st10 en9 f10 t10 fun h11 fl11 sm11=>?_
 refine ⟨x,cls,H',rfl,?_,q⟩
 have un:Un (frs X.stack) [] X.H₀ H' X.s₀.heap s7.heap:=by
  refine Un.strip (ex:=fp) ?_ fun b hb=>Heap.get?_none_of_le (fpn b hb)
  exact ((I.base.mono I.sub (by rw [hex];simp)).trans un6).trans (F.un.mono (fun _ z=>z) (by simp))
 refine Zm9 (l:=X.stack) (s':=s7) (F.os.trans (os6.trans I.os)) F.bare un F.hok F.frf (fun b hb=>(fl.2.2.1.mem hb).2) (B:=W.hideAll B [C]) (a0:=a0) (fun b o z1 z2 z3=>?_) I.sub (fun b h1 h2=>?_) fl11 (fun b hb o z1 z2=>?_) F.free
 ·have nb:b≠C:=by
   rintro rfl
   rcases z2 with z2 | ⟨o',z2⟩
   ·exact z2 nC7
   ·rw [C0] at z2;cases z2
  have zB:B.get? b=some o:=cov b o z1 (z2.imp id fun ⟨o',z⟩=>by
   obtain ⟨o1,w1⟩:=I.base.there b o' z (by rw [hex];simp)
   exact un6.there b o1 w1 fun hb=>by
    rw [Heap.get?_none_of_le (fpn b hb)] at z;cases z) z3
  exact W.hideAll_get _ zB (by simpa using nb)
 ·rcases List.mem_cons.mp (I.stkSub b h1) with e | e
  ·rw [e];exact Heap.get?_none_of_le I.ok.above
  ·exact absurd e h2
 ·have nb:b≠C:=fun z=>nfC (z▸hb)
  obtain ⟨sl,w8⟩:=sm8 b o z1 z2
  have w9:=kb9 b _ nb w8
  have w10:=sm10 b _ w9 z2
  obtain ⟨sl',w11⟩:=sm11 b _ w10 z2
  exact ⟨sl',w11⟩
end
section
variable{X:Cx}{own:List Str}{cap:List (Str×Nat)}{scope:Scope}{cl:List (Str×Addr)}{pins:List (Addr×Obj)}{σ:St}{H:Hp}{s:Shared}{fp:List Addr}{tg:Expr}{J:It}{it:Addr}{tn:Nat→Heap→Prop}{E:XK}
structure ZpW(X:Cx)(E:XK):Prop where
 hst:X.stack=X.env::X.outer
 hfr:X.env.frame=some X.env.locals
 hex:X.ex=[]
 hxe:X.xe=fun e s'=>wpAny (model X.prog X.w) X.A (leaving X.env e) (fun _ s''=>CXR X.prog X.w X.outer X.H₀ X.s₀ E e s'') (fun e' s''=>CXR X.prog X.w X.outer X.H₀ X.s₀ E e' s'') s'
theorem ZlB{elt iter:Expr}{pos:Pos}{wi:TI}{ts:List Expr}{g:Fam TG}{tt:Fam TT}{te:Fam TE}(b:ZpW X E)(hi:PI X tg iter wi)(O:ZaG X own cap scope cl)(hc:X.calm=true)
  (hg:∀C s H fp pn,PG (ZaA (xfE E X) X (own++cap.map (·.1)) scope cl C s H fp pn) tg (g C s H fp pn)) (ht:∀C s H fp pn,PTs (ZaA (xfE E X) X (own++cap.map (·.1)) scope cl C s H fp pn) ts (tt C s H fp pn)) (he:∀C s H fp pn,PE (ZaA (xfE E X) X (own++cap.map (·.1)) scope cl C s H fp pn) elt (te C s H fp pn)) (hts:ts.length≤1)
  (hs:∀x,foldedSetIterable iter X.env x=pure x:=by intro _;rfl):PE X (.ListComp elt [⟨tg,iter,ts,0⟩] scope pos) (Zef wi g tt te own cap):=by
 intro pins s σ H Q I h
 rw [eval_ListComp]
 refine wpAny_comprehension_free (use:=none) rfl hs O.clos O.kind O.locals (thn (hi pins s σ H _ I h) fun xv s₁ h₁=>thn h₁ fun itv s₂ h₂=>?_)
 obtain ⟨it,fp,tn,J,H2,rfl,I2,T,st2,f2,hw⟩:=h₂
 refine ZhB (xf:=xfE E X) (R:=fun acc C=>compPost (model X.prog X.w) X.A X.xe none (EP X pins σ Q) acc C) O hc hg ht he hts I2 T st2 f2 hw ?_ ?_
 ·intro D C H' s' m hC hn hH IV q
  exact ⟨m,hn,fun h' sb=>⟨.ref D,H',IV h' sb,rfl,q⟩⟩
 ·intro D C cells e s' hC z
  refine ZkP b.hst b.hfr b.hex b.hxe I2 (fun a ha=>?_) hC z
  rcases (f2 a ha).2.2.2.1 with q | q
  ·rw [b.hex] at q;cases q
  ·exact q
end
end L2
namespace L2.Ds
open PySem PySem.Spec PyProof.Rows Dl
section
variable{K:W.Frag}{mg:Str→Option Value}{E:XK}{F0 H0 F H:Hp}{σ:St}{ρ:Ev}
theorem ZlL{t:TG}{g:MG}{tt:TT}{nt:MB}{te:TE}{me:ME}{own:List Str}{cap:List (Str×Nat)}{J:It}{ds ys:List D}(r:Rep K mg F0 H0 F H σ ρ)(jo:ItOk K mg F J ds)(hg:SG K mg own.length t g)(ht:STt K mg E tt nt)(he:SE K mg E te me)
  (hl:ds.length≤LIM) (e0:Dl.Zao g nt me (noA own.length (capD ρ (cap.map (·.2)))) ds=.ok ys) (Q:VK) (q:∀F' H' xs,Gr F H F' H'→Rps K mg F' xs ys→xs.length≤sizeLine→∀p,H' p=none→Q (.ref p) (upd H' p (.lst xs))) :
  ZcP J t tt te own cap σ Q H:=by
 refine ⟨fun i k acc H'=>k=ds.length - i∧i≤ds.length∧acc.length≤i∧∃F' zs rs,Gr F H F' H'∧Rps K mg F' acc zs∧Dl.Zao g nt me (noA own.length (capD ρ (cap.map (·.2)))) (ds.drop i)=.ok rs∧zs++rs=ys,
  ⟨ds.length,by simp,Nat.zero_le _,Nat.le_refl _,F,[],ys,.refl r.ss,.nil,e0,rfl⟩,?_⟩
 rintro i k acc H' ⟨rfl,hi,ha,F',zs,rs,g1,r1,e1,e2⟩
 have la:acc.length≤LIM:=Nat.le_trans ha (Nat.le_trans hi hl)
 refine ⟨ZdI la,?_⟩
 by_cases hlt:i<ds.length
 ·refine .inr ?_
  have hd:ds[i]?=some ds[i]:=List.getElem?_eq_getElem hlt
  obtain ⟨go,yl⟩:=(jo F' H' g1.f g1.s i).1 _ hd
  rw [List.drop_eq_getElem_cons hlt] at e1
  refine ⟨go,fun x H2 y=>?_⟩
  obtain ⟨F2,g2,rx⟩:=yl x H2 y
  have rr:=(r.gr (g1.trans g2)).inner (own:=own) (cap:=cap) (g1.trans g2)
  have hG:=hg F H F2 H2 _ _ x _ rr rx
  have e':(g ds[i] (noA own.length (capD ρ (cap.map (·.2))))).bind (fun ρ1=>(nt ρ1).bind fun b=>if b=true then (me ρ1).bind fun y=>(Dl.Zao g nt me (noA own.length (capD ρ (cap.map (·.2)))) (ds.drop (i+1))).bind fun ys=>.ok (y::ys) else Dl.Zao g nt me (noA own.length (capD ρ (cap.map (·.2)))) (ds.drop (i+1)))=.ok rs:=e1
  cases eg:g ds[i] (noA own.length (capD ρ (cap.map (·.2)))) with
  | ok ρ1 =>
   rw [eg] at e' hG
   refine hG _ fun F3 H3 σ3 s3 r3 d3=>⟨d3.trans Zge,?_⟩
   have hT:=ht F H F3 H3 σ3 ρ1 r3
   have sF:Same F' F3:=g2.f.trans s3
   have e3:(nt ρ1).bind (fun b=>if b=true then (me ρ1).bind fun y=>(Dl.Zao g nt me (noA own.length (capD ρ (cap.map (·.2)))) (ds.drop (i+1))).bind fun ys=>.ok (y::ys) else Dl.Zao g nt me (noA own.length (capD ρ (cap.map (·.2)))) (ds.drop (i+1)))=.ok rs:=e'
   cases et:nt ρ1 with
   | ok b =>
    rw [et] at e3 hT
    refine hT _ fun F4 H4 b' g4 eb=>?_
    cases (show b'=b from eb)
    cases b with
    | true =>
     rw [if_pos rfl]
     have e4:(me ρ1).bind (fun y=>(Dl.Zao g nt me (noA own.length (capD ρ (cap.map (·.2)))) (ds.drop (i+1))).bind fun ys=>.ok (y::ys))=.ok rs:=e3
     have hE:=he F H F4 H4 σ3 ρ1 (r3.gr g4)
     cases em:me ρ1 with
     | ok y' =>
      rw [em] at e4 hE
      refine hE _ fun F5 H5 u g5 ru=>⟨Nat.lt_of_le_of_lt la (by decide),ds.length - (i+1),by omega,rfl,hlt,by rw [List.length_append];show acc.length+1≤i+1;omega,?_⟩
      have e5:(Dl.Zao g nt me (noA own.length (capD ρ (cap.map (·.2)))) (ds.drop (i+1))).bind (fun ys=>.ok (y'::ys))=.ok rs:=e4
      cases ec:Dl.Zao g nt me (noA own.length (capD ρ (cap.map (·.2)))) (ds.drop (i+1)) with
      | ok rs' =>
       rw [ec] at e5
       have e6:Res.ok (y'::rs')=.ok rs:=e5
       cases e6
       exact ⟨F5,zs++[y'],rs',r3.g.trans (g4.trans g5),Rps.app (.cons ru .nil) (r1.same (sF.trans (g4.f.trans g5.f))),rfl,by rw [List.append_assoc];exact e2⟩
      | ex c=>rw [ec] at e5;cases e5
      | bad=>rw [ec] at e5;cases e5
     | ex c=>rw [em] at e4;cases e4
     | bad=>rw [em] at e4;cases e4
    | false =>
     rw [if_neg Bool.false_ne_true]
     have e4:Dl.Zao g nt me (noA own.length (capD ρ (cap.map (·.2)))) (ds.drop (i+1))=.ok rs:=e3
     exact ⟨ds.length - (i+1),by omega,rfl,hlt,by omega,F4,zs,rs,r3.g.trans g4,r1.same (sF.trans g4.f),e4,e2⟩
   | ex c=>rw [et] at e3;cases e3
   | bad=>rw [et] at e3;cases e3
  | ex c=>rw [eg] at e';cases e'
  | bad=>rw [eg] at e';cases e'
 ·have hi2:i=ds.length:=by omega
  subst hi2
  rw [List.drop_eq_nil_of_le (Nat.le_refl _)] at e1
  cases e1
  rw [List.append_nil] at e2
  subst e2
  exact .inl ⟨(jo F' H' g1.f g1.s _).2 (Nat.le_refl _),q F' H' acc g1 r1 (ZdI la)⟩
theorem Zk9{t:TG}{g:MG}{tt:TT}{nt:MB}{te:TE}{me:ME}{own:List Str}{cap:List (Str×Nat)}{J:It}{ds:List D}{c:Str}(r:Rep K mg F0 H0 F H σ ρ)(jo:ItOk K mg F J ds)(hg:SG K mg own.length t g)(hgx:∀d ρ c,g d ρ≠.ex c)(ht:STt K mg E tt nt)(he:SE K mg E te me)
  (hl:ds.length≤LIM) (e0:Dl.Zao g nt me (noA own.length (capD ρ (cap.map (·.2)))) ds=.ex c) (Q:VK) (q:∀F' H' C,Gr F H F' H'→mg c=some (.ref C)→E (.ref C) none H') :
  ZcP J t tt te own cap σ Q H:=by
 refine ⟨fun i k acc H'=>k=ds.length - i∧i≤ds.length∧acc.length≤i∧∃F',Gr F H F' H'∧Dl.Zao g nt me (noA own.length (capD ρ (cap.map (·.2)))) (ds.drop i)=.ex c,
  ⟨ds.length,by simp,Nat.zero_le _,Nat.le_refl _,F,.refl r.ss,e0⟩,?_⟩
 rintro i k acc H' ⟨rfl,hi,ha,F',g1,e1⟩
 have la:acc.length≤LIM:=Nat.le_trans ha (Nat.le_trans hi hl)
 refine ⟨ZdI la,?_⟩
 by_cases hlt:i<ds.length
 case neg =>
  rw [List.drop_eq_nil_of_le (by omega)] at e1
  cases e1
 refine .inr ?_
 have hd:ds[i]?=some ds[i]:=List.getElem?_eq_getElem hlt
 obtain ⟨go,yl⟩:=(jo F' H' g1.f g1.s i).1 _ hd
 rw [List.drop_eq_getElem_cons hlt] at e1
 refine ⟨go,fun x H2 y=>?_⟩
 obtain ⟨F2,g2,rx⟩:=yl x H2 y
 have rr:=(r.gr (g1.trans g2)).inner (own:=own) (cap:=cap) (g1.trans g2)
 have hG:=hg F H F2 H2 _ _ x _ rr rx
 have e':(g ds[i] (noA own.length (capD ρ (cap.map (·.2))))).bind (fun ρ1=>(nt ρ1).bind fun b=>if b=true then (me ρ1).bind fun y=>(Dl.Zao g nt me (noA own.length (capD ρ (cap.map (·.2)))) (ds.drop (i+1))).bind fun ys=>.ok (y::ys) else Dl.Zao g nt me (noA own.length (capD ρ (cap.map (·.2)))) (ds.drop (i+1)))=.ex c:=e1
 cases eg:g ds[i] (noA own.length (capD ρ (cap.map (·.2)))) with
 | bad=>rw [eg] at e';cases e'
 | ex c'=>exact absurd eg (hgx _ _ _)
 | ok ρ1 =>
  rw [eg] at e' hG
  refine hG _ fun F3 H3 σ3 s3 r3 d3=>⟨d3.trans Zge,?_⟩
  have hT:=ht F H F3 H3 σ3 ρ1 r3
  have e3:(nt ρ1).bind (fun b=>if b=true then (me ρ1).bind fun y=>(Dl.Zao g nt me (noA own.length (capD ρ (cap.map (·.2)))) (ds.drop (i+1))).bind fun ys=>.ok (y::ys) else Dl.Zao g nt me (noA own.length (capD ρ (cap.map (·.2)))) (ds.drop (i+1)))=.ex c:=e'
  cases et:nt ρ1 with
  | bad=>rw [et] at e3;cases e3
  | ex c' =>
   rw [et] at e3 hT
   cases (show Res.ex c'=.ex c from e3)
   exact hT _ fun F4 H4 C g4 hC=>q F4 H4 C (r3.g.trans g4) hC
  | ok b =>
   rw [et] at e3 hT
   refine hT _ fun F4 H4 b' g4 eb=>?_
   cases (show b'=b from eb)
   cases b with
   | false =>
    rw [if_neg Bool.false_ne_true]
    exact ⟨ds.length - (i+1),by omega,rfl,hlt,by omega,F4,r3.g.trans g4,e3⟩
   | true =>
    rw [if_pos rfl]
    have e4:(me ρ1).bind (fun y=>(Dl.Zao g nt me (noA own.length (capD ρ (cap.map (·.2)))) (ds.drop (i+1))).bind fun ys=>.ok (y::ys))=.ex c:=e3
    have hE:=he F H F4 H4 σ3 ρ1 (r3.gr g4)
    cases em:me ρ1 with
    | bad=>rw [em] at e4;cases e4
    | ex c' =>
     rw [em] at e4 hE
     cases (show Res.ex c'=.ex c from e4)
     exact hE _ fun F5 H5 C g5 hC=>q F5 H5 C (r3.g.trans (g4.trans g5)) hC
    | ok y' =>
     rw [em] at e4 hE
     have e5:(Dl.Zao g nt me (noA own.length (capD ρ (cap.map (·.2)))) (ds.drop (i+1))).bind (fun ys=>.ok (y'::ys))=.ex c:=e4
     refine hE _ fun F5 H5 u g5 ru=>⟨Nat.lt_of_le_of_lt la (by decide),ds.length - (i+1),by omega,rfl,hlt,by rw [List.length_append];show acc.length+1≤i+1;omega,F5,r3.g.trans (g4.trans g5),?_⟩
     cases ec:Dl.Zao g nt me (noA own.length (capD ρ (cap.map (·.2)))) (ds.drop (i+1)) with
     | ok rs=>rw [ec] at e5;cases e5
     | bad=>rw [ec] at e5;cases e5
     | ex c' =>
      rw [ec] at e5
      exact e5
theorem ZlV{wi:TI}{mi:MI}{t:Fam TG}{g:MG}{tt:Fam TT}{nt:MB}{te:Fam TE}{me:ME}{own:List Str}{cap:List (Str×Nat)}(hi:SI K mg E wi mi)(hg:∀C s H fp pn,SG K mg own.length (t C s H fp pn) g)(hgx:∀d ρ c,g d ρ≠.ex c)(ht:∀C s H fp pn,STt K mg E (tt C s H fp pn) nt)(he:∀C s H fp pn,SE K mg E (te C s H fp pn) me) :
  SE K mg E (Zef wi t tt te own cap) (Zi4 mi own.length (cap.map (·.2)) g nt me):=by
 intro F0 H0 F H σ ρ rr
 refine (hi F0 H0 F H σ ρ rr).bind (w':=fun J H1 Q=>∀C s H2 fp pn,ZcP J (t C s H2 fp pn) (tt C s H2 fp pn) (te C s H2 fp pn) own cap σ Q H1) fun F1 H1 J ds g1 jo=>?_
 by_cases hl:ds.length≤LIM
 ·rw [if_pos hl]
  cases e:Dl.Zao g nt me (noA own.length (capD ρ (cap.map (·.2)))) ds with
  | ok ys=>exact fun Q q C s H2 fp pn=>ZlL (rr.gr g1) jo (hg C s H2 fp pn) (ht C s H2 fp pn) (he C s H2 fp pn) hl e Q fun F' H' xs g2 rs _ p hp=>q _ _ _ (g2.trans (.new g2.s hp _)) (.lst (SqL.of Zal) (rs.same (ZaP (g2.s.free hp) _)))
  | ex c=>exact fun Q q C s H2 fp pn=>Zk9 (rr.gr g1) jo (hg C s H2 fp pn) hgx (ht C s H2 fp pn) (he C s H2 fp pn) hl e Q fun F' H' C g2 hC=>q F' H' C g2 hC
  | bad=>trivial
 ·rw [if_neg hl];trivial
end
section
variable{X:Cx}{E:XK}{tg iter elt:Expr}{ts:List Expr}{me:ME}{na:MB}{pos:Pos}
theorem ZjB{own:List Str}{cap:List (Str×Nat)}{scope:Scope}{cl:List (Str×Addr)}{wi:TI}{mi:MI}{g:Fam TG}{gm:MG}{tt:Fam TT}{tf:Fam TE}(b:ZpW X E)(hi:DI X E tg iter wi mi)(O:ZaG X own cap scope cl)(hc:X.calm=true)
  (hg:∀C s H fp pn,DG (ZaA (xfE E X) X (own++cap.map (·.1)) scope cl C s H fp pn) own.length tg (g C s H fp pn) gm) (ht:∀C s H fp pn,DTs (ZaA (xfE E X) X (own++cap.map (·.1)) scope cl C s H fp pn) E ts (tt C s H fp pn) na)
  (he:∀C s H fp pn,DE (ZaA (xfE E X) X (own++cap.map (·.1)) scope cl C s H fp pn) E elt (tf C s H fp pn) me) (hts:ts.length≤1:=by decide) (hs:∀x,foldedSetIterable iter X.env x=pure x:=by intro _;rfl) :
  DE X E (.ListComp elt [⟨tg,iter,ts,0⟩] scope pos) (Zef wi g tt tf own cap) (Zi4 mi own.length (cap.map (·.2)) gm na me) :=
 ⟨ZlB b hi.p O hc (fun C s H fp pn=>(hg C s H fp pn).p) (fun C s H fp pn=>(ht C s H fp pn).p) (fun C s H fp pn=>(he C s H fp pn).p) hts hs,
  ZlV hi.s (fun C s H fp pn=>(hg C s H fp pn).s) (hg 0 X.s₀ (fun _=>none) [] []).x (fun C s H fp pn=>(ht C s H fp pn).s) (fun C s H fp pn=>(he C s H fp pn).s)⟩
theorem ZnZ{X:Cx}{E:XK}{N:List Str}{scope:Scope}{cl:List (Str×Addr)}{C':Addr}{s:Shared}{H:Hp}{fp:List Addr}{pn:List (Addr×Obj)}{e:Expr}{es:List Expr}{t:TA}{m:MA}{n k l:Nat}{x:Str}{ps:List Str}{f:List D→Res D}{p pos:Pos}
  (C:Cal X.prog X.w X.K X.mg X.base k x ps f) (hr:Room l X.A) (hn:k≤l) (hg:Gl (ZaA (xfE E X) X N scope cl C' s H fp pn) x) (ha:DA (ZaA (xfE E X) X N scope cl C' s H fp pn) E n (e::es) t m) (hps:ps.length=n:=by rfl)
  (hdb:(x==("__debug__" : Str))=false:=by decide) (he:starEach (e::es) (ZaA (xfE E X) X N scope cl C' s H fp pn).env=(false,eval e (ZaA (xfE E X) X N scope cl C' s H fp pn).env)::starEach es (ZaA (xfE E X) X N scope cl C' s H fp pn).env:=by rfl)
  (hpl:(backTo pos (starEach es (ZaA (xfE E X) X N scope cl C' s H fp pn).env)).any (·.1)=false:=by rfl) :
  DE (ZaA (xfE E X) X N scope cl C' s H fp pn) E (.Call (.Name x p) (e::es) [] pos) (ZhI (spD X.K X.mg ps.length f) [] E t) (on f m) :=
 Zak (X:=ZaA (xfE E X) X N scope cl C' s H fp pn) C hr hn hg ZmO ha hps hdb he hpl
end
end L2.Ds
namespace Dl
open PySem
def dFld(cs:List Str)(f:Str):D→Res D
 | .ins c ns vs=>if cs.contains c=true then ofO ((ns.zip vs).lookup f) else .bad
 | _=>.bad
def badS:MS:=fun _=>.bad
end Dl
namespace L2.Ds
open PySem PySem.Spec PyProof.Rows Dl
def ZeF(K:W.Frag)(mg:Str→Option Value)(cs:List Str)(f:Str):Prop:=∀c,cs.contains c=true→∀C,mg c=some (.ref C)→Cls K C∧Zde K C f
def rFld(K:W.Frag)(f:Str):V→Hp→VK→Prop:=fun x H Q=>∃a C dx fs v,x=.ref a∧H a=some (.ins C dx fs)∧Cls K C∧Zde K C f∧fs.lookup f=some v∧Q v H
section
variable{K:W.Frag}{mg:Str→Option Value}
theorem Zf5{F:Hp}{f:Str}{d:D}:∀{fs:List (Str×V)} {vs:List D},Rps K mg F (fs.map (·.2)) vs→((fs.map (·.1)).zip vs).lookup f=some d→∃v,fs.lookup f=some v∧Rp K mg F v d
 | [],_,_,e=>by simp at e
 | (n,x)::r,[],q,_=>nomatch q
 | (n,x)::r,d0::vs,.cons h q,e=>by
  rw [List.map_cons,List.zip_cons_cons,List.lookup_cons] at e
  rw [List.lookup_cons]
  cases z:f==n with
  | true =>
   rw [show (f==(n,x).fst)=true from z] at e
   cases e
   exact ⟨x,rfl,h⟩
  | false =>
   rw [show (f==(n,x).fst)=false from z] at e
   exact Zf5 q e
theorem ZmH{cs:List Str}{f:Str}(T:ZeF K mg cs f):UnD K mg (rFld K f) (dFld cs f):=by
 intro E F H x dx s rx
 cases dx with
 | ins c ns vs =>
  show Ans mg E (Rp K mg) F H (if cs.contains c=true then ofO ((ns.zip vs).lookup f) else .bad) _
  by_cases hc:cs.contains c=true
  ·rw [if_pos hc]
   cases rx with
   | @ins _ C a dx fs xs _ m h o e r =>
    subst e
    cases q:((fs.map (·.1)).zip vs).lookup f with
    | none=>trivial
    | some d =>
     obtain ⟨v,hv,rv⟩:=Zf5 r q
     obtain ⟨c1,c2⟩:=T c hc C m
     exact .ret s rv fun Q z=>⟨a,C,dx,fs,v,rfl,s _ _ h,c1,c2,hv,z⟩
  ·rw [if_neg hc];trivial
 | _=>trivial
end
theorem ZgH{X:Cx}{E:XK}{e:Expr}{te:TE}{me:ME}{cs:List Str}{f:Str}{pos:Pos}(T:ZeF X.K X.mg cs f)(he:DE X E e te me)(hb:attributeBase e f X.env (eval e X.env)=eval e X.env:=by rfl) :
  DE X E (.Attribute e f pos) (tFld X.K te f) (o1 (dFld cs f) me):=⟨ZpD he.p hb,Zou (ZmH T) he.s⟩
theorem Zdm{X:Cx}{E:XK}{sts:List Stmt}:DSs X E sts (fun _ _ _=>False) badS:=⟨fun _ _ _ _ _ _ h=>h.elim,fun _ _ _ _ _ _ _=>trivial⟩
end L2.Ds
namespace Dl
open PySem
mutual
def noL:D→Bool
 | .lst _=>false
 | .ins _ _ _=>false
 | .tup xs=>noLs xs
 | _=>true
def noLs:List D→Bool
 | []=>true
 | x::r=>noL x&&noLs r
end
def ZkK:D→Option (List D)
 | .lst cs=>if noLs cs=true then some cs else none
 | _=>none
def ZeN:List D→Bool
 | []=>true
 | d::r=>(ZkK d).isSome&&ZeN r
end Dl
namespace L2.Ds
open PySem PySem.Spec PyProof.Rows Dl
section
variable{K:W.Frag}{mg:Str→Option Value}{E:XK}{F0 H0 F H:Hp}{σ:St}{ρ:Ev}
mutual
theorem Zmx{F F3:Hp}(k:∀b o,F b=some o→(∀xs,o≠.lst xs)→F3 b=some o):∀{x:V} {d:D},Rp K mg F x d→noL d=true→Rp K mg F3 x d
 | _,_,.non,_=>.non
 | _,_,.bl b,_=>.bl b
 | _,_,.int i,_=>.int i
 | _,_,.str x,_=>.str x
 | _,_,.ty n,_=>.ty n
 | _,_,.cls h,_=>.cls h
 | _,_,.tup h r,p=>by
  refine .tup ?_ (ZhT k r (by simpa [noL] using p))
  rcases h with (h | ⟨o,h⟩) | h
  ·exact .inl (.inl (k _ _ h fun _ z=>by cases z))
  ·exact .inl (.inr ⟨o,k _ _ h fun _ z=>by cases z⟩)
  ·exact .inr h
 | _,_,.lst h r,p=>by simp [noL] at p
 | _,_,.exc m h,_=>.exc m (k _ _ h fun _ z=>by cases z)
 | _,_,.ins m h o q r,p=>by simp [noL] at p
theorem ZhT{F F3:Hp}(k:∀b o,F b=some o→(∀xs,o≠.lst xs)→F3 b=some o):∀{xs:List V} {ds:List D},Rps K mg F xs ds→noLs ds=true→Rps K mg F3 xs ds
 | _,_,.nil,_=>.nil
 | _,_,.cons h r,p=>by
  rw [noLs,Bool.and_eq_true] at p
  exact .cons (Zmx k h p.1) (ZhT k r p.2)
end
def RowR(K:W.Frag)(mg:Str→Option Value)(Fb F':Hp)(x:V)(d:D):Prop:=∃q ys cs,x=.ref q∧d=.lst cs∧Fb q=none∧F' q=some (.lst ys)∧Rps K mg F' ys cs
theorem RowR.up{Fb F' F'':Hp}{x:V}{d:D}(h:RowR K mg Fb F' x d)(s:Same F' F''):RowR K mg Fb F'' x d:=by
 obtain ⟨q,ys,cs,e1,e2,h1,h2,h3⟩:=h
 exact ⟨q,ys,cs,e1,e2,h1,s _ _ h2,h3.same s⟩
def SEl(K:W.Frag)(mg:Str→Option Value)(E:XK)(t:TE)(m:ME):Prop:=∀F0 H0 F H σ ρ,Rep K mg F0 H0 F H σ ρ→Ans mg E (RowR K mg F) F H (m ρ) (t σ H)
theorem ZlH{t:TA}{m:MA}(ha:SA K mg E t m):SEl K mg E (tCB (fun xs H Q=>∃p ys,xs=[.ref p]∧(SqL K H p ys∨SqT K H p ys)∧∀l,H l=none→Q (.ref l) (upd H l (.lst ys))) t) (on bLst m):=by
 intro F0 H0 F H σ ρ rr
 refine (ha F0 H0 F H σ ρ rr).bind (w':=fun xs H1 (Q:V→Hp→Prop)=>∃p ys,xs=[V.ref p]∧(SqL K H1 p ys∨SqT K H1 p ys)∧∀l,H1 l=none→Q (.ref l) (upd H1 l (.lst ys))) fun F1 H1 xs ds g1 rs=>?_
 have fin:∀(zs:List V) (es:List D),Rps K mg F1 zs es→∀(p:Addr),xs=[.ref p]→(SqL K H1 p zs∨SqT K H1 p zs)→Ans mg E (RowR K mg F) F1 H1 (.ok (.lst es)) (fun (Q:V→Hp→Prop)=>∃p ys,xs=[V.ref p]∧(SqL K H1 p ys∨SqT K H1 p ys)∧∀l,H1 l=none→Q (.ref l) (upd H1 l (.lst ys))):=fun zs es rz p ex hs Q q=>⟨p,zs,ex,hs,fun l hl=>q _ _ _ (.new g1.s hl _) ⟨l,zs,es,rfl,rfl,(g1.f.free (g1.s.free hl)),Zal,rz.same (ZaP (g1.s.free hl) _)⟩⟩
 unfold bLst
 split
 ·next es =>
  obtain ⟨x,rfl,rx⟩:=rs.one
  cases rx with
  | lst h r=>exact fin _ _ r _ rfl (.inl (g1.s.seq h))
 ·next es =>
  obtain ⟨x,rfl,rx⟩:=rs.one
  cases rx with
  | tup h r=>exact fin _ _ r _ rfl (.inr (ZaO g1.s h))
 ·trivial
theorem Zlb{t:TG}{g:MG}{tt:TT}{nt:MB}{te:TE}{me:ME}{own:List Str}{cap:List (Str×Nat)}{J:It}{ds ys:List D}(r:Rep K mg F0 H0 F H σ ρ)(jo:ItOk K mg F J ds)(hg:SG K mg own.length t g)(ht:STt K mg E0 tt nt)(he:SEl K mg E0 te me)
  (hl:ds.length≤LIM) (e0:Dl.Zao g nt me (noA own.length (capD ρ (cap.map (·.2)))) ds=.ok ys) (Q:VK) (q:∀F' H' xs,Gr F H F' H'→Rps K mg F' xs ys→(∀(k:Nat) (y:V) (d:D),xs[k]?=some y→ys[k]?=some d→RowR K mg F F' y d)→xs.Nodup→xs.length≤sizeLine→∀p,H' p=none→Q (.ref p) (upd H' p (.lst xs))) :
  ZcP J t tt te own cap σ Q H:=by
 refine ⟨fun i k acc H'=>k=ds.length - i∧i≤ds.length∧acc.length≤i∧∃F' zs rs,Gr F H F' H'∧Rps K mg F' acc zs∧(∀(k:Nat) (y:V) (d:D),acc[k]?=some y→zs[k]?=some d→RowR K mg F F' y d)∧acc.Nodup∧Dl.Zao g nt me (noA own.length (capD ρ (cap.map (·.2)))) (ds.drop i)=.ok rs∧zs++rs=ys,
  ⟨ds.length,by simp,Nat.zero_le _,Nat.le_refl _,F,[],ys,.refl r.ss,.nil,(fun k y d hy=>by simp at hy),List.nodup_nil,e0,rfl⟩,?_⟩
 rintro i k acc H' ⟨rfl,hi,ha,F',zs,rs,g1,r1,n1,nd1,e1,e2⟩
 have la:acc.length≤LIM:=Nat.le_trans ha (Nat.le_trans hi hl)
 refine ⟨ZdI la,?_⟩
 by_cases hlt:i<ds.length
 ·refine .inr ?_
  have hd:ds[i]?=some ds[i]:=List.getElem?_eq_getElem hlt
  obtain ⟨go,yl⟩:=(jo F' H' g1.f g1.s i).1 _ hd
  rw [List.drop_eq_getElem_cons hlt] at e1
  refine ⟨go,fun x H2 y=>?_⟩
  obtain ⟨F2,g2,rx⟩:=yl x H2 y
  have rr:=(r.gr (g1.trans g2)).inner (own:=own) (cap:=cap) (g1.trans g2)
  have hG:=hg F H F2 H2 _ _ x _ rr rx
  have e':(g ds[i] (noA own.length (capD ρ (cap.map (·.2))))).bind (fun ρ1=>(nt ρ1).bind fun b=>if b=true then (me ρ1).bind fun y=>(Dl.Zao g nt me (noA own.length (capD ρ (cap.map (·.2)))) (ds.drop (i+1))).bind fun ys=>.ok (y::ys) else Dl.Zao g nt me (noA own.length (capD ρ (cap.map (·.2)))) (ds.drop (i+1)))=.ok rs:=e1
  cases eg:g ds[i] (noA own.length (capD ρ (cap.map (·.2)))) with
  | ok ρ1 =>
   rw [eg] at e' hG
   refine hG _ fun F3 H3 σ3 s3 r3 d3=>⟨d3.trans Zge,?_⟩
   have hT:=ht F H F3 H3 σ3 ρ1 r3
   have sF:Same F' F3:=g2.f.trans s3
   have e3:(nt ρ1).bind (fun b=>if b=true then (me ρ1).bind fun y=>(Dl.Zao g nt me (noA own.length (capD ρ (cap.map (·.2)))) (ds.drop (i+1))).bind fun ys=>.ok (y::ys) else Dl.Zao g nt me (noA own.length (capD ρ (cap.map (·.2)))) (ds.drop (i+1)))=.ok rs:=e'
   cases et:nt ρ1 with
   | ok b =>
    rw [et] at e3 hT
    refine hT _ fun F4 H4 b' g4 eb=>?_
    cases (show b'=b from eb)
    cases b with
    | true =>
     rw [if_pos rfl]
     have e4:(me ρ1).bind (fun y=>(Dl.Zao g nt me (noA own.length (capD ρ (cap.map (·.2)))) (ds.drop (i+1))).bind fun ys=>.ok (y::ys))=.ok rs:=e3
     have hE:=he F H F4 H4 σ3 ρ1 (r3.gr g4)
     cases em:me ρ1 with
     | ok y' =>
      rw [em] at e4 hE
      refine hE _ fun F5 H5 u g5 ru=>⟨Nat.lt_of_le_of_lt la (by decide),ds.length - (i+1),by omega,rfl,hlt,by rw [List.length_append];show acc.length+1≤i+1;omega,?_⟩
      have e5:(Dl.Zao g nt me (noA own.length (capD ρ (cap.map (·.2)))) (ds.drop (i+1))).bind (fun ys=>.ok (y'::ys))=.ok rs:=e4
      have sF5:=sF.trans (g4.f.trans g5.f)
      cases ec:Dl.Zao g nt me (noA own.length (capD ρ (cap.map (·.2)))) (ds.drop (i+1)) with
      | ok rs' =>
       rw [ec] at e5
       have e6:Res.ok (y'::rs')=.ok rs:=e5
       cases e6
       obtain ⟨q,qs,cs,rfl,rfl,fq4,fq5,rq⟩:=ru
       have fq:F q=none:=(r3.g.f.trans g4.f).free fq4
       have lz:=r1.length
       refine ⟨F5,zs++[.lst cs],rs',r3.g.trans (g4.trans g5),Rps.app (.cons (.lst (SqL.of fq5) rq) .nil) (r1.same sF5),fun k z d hz hd=>?_,?_,rfl,by rw [List.append_assoc];exact e2⟩
       ·by_cases hk:k<acc.length
        ·rw [List.getElem?_append_left hk] at hz
         rw [List.getElem?_append_left (by omega)] at hd
         exact (n1 k z d hz hd).up sF5
        ·rw [List.getElem?_append_right (by omega)] at hz
         rw [List.getElem?_append_right (by omega)] at hd
         have hk0:k - acc.length=0:=by
          have:=(List.getElem?_eq_some_iff.mp hz).1
          simp at this
          omega
         rw [hk0] at hz
         rw [show k - zs.length=0 by omega] at hd
         cases hz
         cases hd
         exact ⟨q,qs,cs,rfl,rfl,fq,fq5,rq⟩
       ·refine List.nodup_append.mpr ⟨nd1,by simp,fun z hz w hw=>?_⟩
        have hw':w=.ref q:=by simpa using hw
        subst hw'
        obtain ⟨k,hk,rfl⟩:=List.mem_iff_getElem.mp hz
        obtain ⟨q',_,_,ez,_,_,f',_⟩:=n1 k _ _ (List.getElem?_eq_getElem hk) (List.getElem?_eq_getElem (show k<zs.length by omega))
        rw [ez]
        intro z2
        cases z2
        rw [(sF.trans g4.f) _ _ f'] at fq4
        cases fq4
      | ex c=>rw [ec] at e5;cases e5
      | bad=>rw [ec] at e5;cases e5
     | ex c=>rw [em] at e4;cases e4
     | bad=>rw [em] at e4;cases e4
    | false =>
     rw [if_neg Bool.false_ne_true]
     have e4:Dl.Zao g nt me (noA own.length (capD ρ (cap.map (·.2)))) (ds.drop (i+1))=.ok rs:=e3
     exact ⟨ds.length - (i+1),by omega,rfl,hlt,by omega,F4,zs,rs,r3.g.trans g4,r1.same (sF.trans g4.f),(fun k z d h1 h2=>(n1 k z d h1 h2).up (sF.trans g4.f)),nd1,e4,e2⟩
   | ex c=>rw [et] at e3;cases e3
   | bad=>rw [et] at e3;cases e3
  | ex c=>rw [eg] at e';cases e'
  | bad=>rw [eg] at e';cases e'
 ·have hi2:i=ds.length:=by omega
  subst hi2
  rw [List.drop_eq_nil_of_le (Nat.le_refl _)] at e1
  cases e1
  rw [List.append_nil] at e2
  subst e2
  exact .inl ⟨(jo F' H' g1.f g1.s _).2 (Nat.le_refl _),q F' H' acc g1 r1 n1 nd1 (ZdI la)⟩
theorem Zf9:∀{rows:List D} {r:Nat} {d:D},ZeN rows=true→rows[r]?=some d→∃cs,d=.lst cs∧noLs cs=true
 | [],_,_,_,e=>by simp at e
 | x::rows,0,d,h,e=>by
  have e':x=d:=by simpa using e
  subst e'
  rw [ZeN,Bool.and_eq_true] at h
  cases x with
  | lst cs =>
   refine ⟨cs,rfl,?_⟩
   have h1:(if noLs cs=true then some cs else none).isSome=true:=h.1
   by_cases z:noLs cs=true
   ·exact z
   ·rw [if_neg z] at h1;cases h1
  | _=>exact absurd h.1 (by simp [ZkK])
 | x::rows,r+1,d,h,e=>by
  rw [ZeN,Bool.and_eq_true] at h
  exact Zf9 (r:=r) h.2 (by simpa using e)
theorem Ziw:∀{xs:List V} {ds:List D} {G:Hp},xs.length=ds.length→(∀(k:Nat) (x:V) (d:D),xs[k]?=some x→ds[k]?=some d→Rp K mg G x d)→Rps K mg G xs ds
 | [],[],_,_,_=>.nil
 | [],_::_,_,l,_=>by cases l
 | _::_,[],_,l,_=>by cases l
 | x::xs,d::ds,G,l,h=>.cons (h 0 x d rfl rfl) (Ziw (by simpa using l) fun k y e h1 h2=>h (k+1) y e (by simpa using h1) (by simpa using h2))
end
structure DEl(X:Cx)(E:XK)(e:Expr)(t:TE)(m:ME):Prop where
 p:PE X e t
 s:SEl X.K X.mg E t m
section
variable{X:Cx}{E:XK}{tg iter elt e e0:Expr}{ts es:List Expr}{me mv:ME}{na:MB}{n i a b:Nat}{x xa xb:Str}{t:TA}{m:MA}{tv:TE}{ur:TS}{kr:MS}{rest:List Stmt}{pos pos' spos spos2 np nap nbp ip ip2:Pos}
theorem Zm4{xl:Str}{lp cpos:Pos}(h:DE X E (.Call (.Name xl lp) (e0::es) [] cpos) (tCB (fun xs H Q=>∃p ys,xs=[.ref p]∧(SqL X.K H p ys∨SqT X.K H p ys)∧∀l,H l=none→Q (.ref l) (upd H l (.lst ys))) t) (on bLst m))(ha:DA X E n (e0::es) t m):DEl X E (.Call (.Name xl lp) (e0::es) [] cpos) (tCB (fun xs H Q=>∃p ys,xs=[.ref p]∧(SqL X.K H p ys∨SqT X.K H p ys)∧∀l,H l=none→Q (.ref l) (upd H l (.lst ys))) t) (on bLst m):=⟨h.p,ZlH ha.s⟩
end
end L2.Ds
namespace Dl
open PySem
end Dl
namespace L2
open PySem PySem.Spec PyProof.Rows
end L2
namespace L2.Ds
open PySem PySem.Spec PyProof.Rows PySem.Calls Dl
end L2.Ds
namespace Dl
open PySem
abbrev Fs:=List (Str×D)
abbrev MSi:=Ev→Fs→Res Fs
def iEnd:MSi:=fun _ fl=>.ok fl
def iDrp(e:ME)(k:MSi):MSi:=fun ρ fl=>(e ρ).bind fun _=>k ρ fl
def iSup(g:List D→Fs→Res Fs)(a:MA)(k:MSi):MSi:=fun ρ fl=>(a ρ).bind fun ds=>(g ds fl).bind fun fl'=>k ρ fl'
def fnI(n:Nat)(k:MSi):List D→Fs→Res Fs:=fun ds fl=>k (.no::ev0 (n - 1) ds) fl
def make(c:Str)(g:List D→Fs→Res Fs)(a:MA):ME:=fun ρ=>(a ρ).bind fun ds=>(g ds []).bind fun fl=>.ok (.ins c (fl.map (·.1)) (fl.map (·.2)))
def meth(tab:List (Str×(List D→Res D)))(m:Str)(o:ME)(a:MA):ME:=fun ρ=>(o ρ).bind fun d=>match d with
 | .ins c ns vs=>if ns.contains m=true then .bad else match tab.lookup c with
  | some f=>(a ρ).bind fun ds=>f (.ins c ns vs::ds)
  | none=>.bad
 | _=>.bad
end Dl
namespace L2.Ds
open PySem PySem.Spec PyProof.Rows Dl
theorem Ans.imp{α β:Type}{mg:Str→Option Value}{E:XK}{R:Hp→β→α→Prop}{F H:Hp}{r:Res α}{w w':(β→Hp→Prop)→Prop}(h:Ans mg E R F H r w)(hw:∀Q,w Q→w' Q):Ans mg E R F H r w':=by
 cases r with
 | ok a=>exact fun Q q=>hw Q (h Q q)
 | ex c=>exact fun Q q=>hw Q (h Q q)
 | bad=>trivial
def ZjG(P:Program)(w:World)(K:W.Frag)(mg:Str→Option Value)(base:Heap)(k:Nat)(m:Str)(E:XK)(ta:TE)(t:TA):TE:=fun σ H Q=>ta σ H fun x H1=>∃a C dx fs g fd ps sp,x=.ref a∧H1 a=some (.ins C dx fs)∧fs.lookup m=none ∧
 Cls K C∧Meth K C m g∧FnOk P w K mg base (CXR P w) k g fd ps sp∧Binds K fd ps []∧t σ H1 fun vs H2=>sp (x::vs) H2 Q E
section
variable{X:Cx}{E:XK}{k:Nat}{m:Str}{e o:Expr}{es:List Expr}{ta:TE}{t:TA}{pos apos:Pos}{pl:Sem Bool}
theorem ZjK(he:PE X o ta)(hr:Room k X.A)(hx:Zch (CXR X.prog X.w) X E)
  (ht:eval (.Call (.Attribute o m apos) [] [] pos) X.env=(do
   let ov ←eval o X.env
   standAt apos.atName
   let (f,first) ←holding [ov] (getMethod ov m pl)
   callWith pos f first (backTo pos (starEach [] X.env)) (backToKw pos (keywordEach [] X.env))):=by rfl) :
  PE X (.Call (.Attribute o m apos) [] [] pos) (ZjG X.prog X.w X.K X.mg X.base k m E ta tNil):=by
 intro pins s σ H Q I h
 refine W.methodCall_KW (pl:=pl) (thn (he pins s σ H _ I h) fun u s1 hZ=>?_) ht
 obtain ⟨x,H1,I1,rx,a,C,dx,fs,g,fd,ps,sp,ex,ea,l,c,hm,F,hb,q⟩:=hZ
 subst ex
 obtain rfl:u=Value.ref a:=rx
 refine ZiV I1 ea c hm l ?_
 exact W.callWith_K0 (first:=[.ref a]) I1.kIn hm.kp (Zku (us:=[.ref a]) (vs:=[.ref a]) (dvs:=[]) F hr hb .nil hx I1 (.cons rfl .nil) q)
end
def Zel(P:Program)(w:World)(K:W.Frag)(mg:Str→Option Value)(base:Heap)(k n:Nat)(m:Str)(tab:List (Str×(List D→Res D))):Prop:=∀c f,tab.lookup c=some f→∀C,mg c=some (.ref C) →
 Cls K C∧∃g fd ps,Meth K C m g∧FnOk P w K mg base (CXR P w) k g fd ps (spD K mg ps.length f)∧Binds K fd ps []∧ps.length=n+1
theorem Zel.nil{P:Program}{w:World}{K:W.Frag}{mg:Str→Option Value}{base:Heap}{k n:Nat}{m:Str}:Zel P w K mg base k n m []:=fun _ _ e=>by cases e
theorem Zel.cons{P:Program}{w:World}{K:W.Frag}{mg:Str→Option Value}{base:Heap}{k n:Nat}{m c:Str}{f:List D→Res D}{tab:List (Str×(List D→Res D))}
  (h:∀C,mg c=some (.ref C)→Cls K C∧∃g fd ps,Meth K C m g∧FnOk P w K mg base (CXR P w) k g fd ps (spD K mg ps.length f)∧Binds K fd ps []∧ps.length=n+1) (r:Zel P w K mg base k n m tab):Zel P w K mg base k n m ((c,f)::tab):=by
 intro c' f' e
 rw [List.lookup_cons] at e
 split at e
 ·next q =>
  cases e
  rw [eq_of_beq q]
  exact h
 ·exact r c' f' e
theorem Zhj{m:Str}:∀{fs:List (Str×V)},¬(fs.map (·.1)).contains m=true→fs.lookup m=none
 | [],_=>rfl
 | (n,x)::r,h=>by
  rw [List.map_cons,List.contains_cons] at h
  rw [List.lookup_cons]
  cases z:m==n with
  | true=>exact absurd (by rw [show (m==(n,x).fst)=true from z];rfl) h
  | false=>exact Zhj fun q=>h (by rw [q,Bool.or_true])
section
variable{P:Program}{w:World}{K:W.Frag}{mg:Str→Option Value}{base:Heap}{E:XK}{k n:Nat}{m:Str}{tab:List (Str×(List D→Res D))}{ta:TE}{mo:ME}{t:TA}{ma:MA}
theorem ZmV(T:Zel P w K mg base k n m tab)(ho:SE K mg E ta mo)(ha:SA K mg E t ma)(hl:SAn n ma):SE K mg E (ZjG P w K mg base k m E ta t) (meth tab m mo ma):=by
 intro F0 H0 F H σ ρ rr
 refine (ho F0 H0 F H σ ρ rr).bind fun F1 H1 x d g1 rx=>?_
 cases d with
 | ins c ns vs =>
  show Ans mg E (Rp K mg) F1 H1 (if ns.contains m=true then .bad else match tab.lookup c with
   | some f=>(ma ρ).bind fun ds=>f (.ins c ns vs::ds)
   | none=>.bad) _
  by_cases hc:ns.contains m=true
  ·rw [if_pos hc];trivial
  rw [if_neg hc]
  cases e:tab.lookup c with
  | none=>trivial
  | some f =>
   show Ans mg E (Rp K mg) F1 H1 ((ma ρ).bind fun ds=>f (.ins c ns vs::ds)) _
   have rx':=rx
   cases rx with
   | @ins _ C a dx fs xs _ hm h o q r =>
    obtain ⟨c1,g,fd,ps,hM,hF,hB,hp⟩:=T c f e C hm
    refine Ans.imp ((ha F0 H0 F1 H1 σ ρ (rr.gr g1)).bindE (w':=fun vs' H2 Q=>spD K mg ps.length f (.ref a::vs') H2 Q E) fun ds ed F2 H2 vs' g2 rs=>?_) fun Q z=>⟨a,C,dx,fs,g,fd,ps,spD K mg ps.length f,rfl,g1.s _ _ h,Zhj hc,c1,hM,hF,hB,z⟩
    exact Zil g2.s (.cons (rx'.same g2.f) rs) (by rw [List.length_cons,hl ρ ds ed,hp])
 | _=>trivial
end
section
variable{X:Cx}{E:XK}{k l n:Nat}{m:Str}{e o:Expr}{es:List Expr}{ta:TE}{mo:ME}{t:TA}{ma:MA}{pos apos:Pos}{pl:Sem Bool}{tab:List (Str×(List D→Res D))}
theorem ZnS(T:Zel X.prog X.w X.K X.mg X.base k 0 m tab)(hr:Room l X.A)(hn:k≤l)(hx:Zch (CXR X.prog X.w) X E)(ho:DE X E o ta mo)
  (ht:eval (.Call (.Attribute o m apos) [] [] pos) X.env=(do
   let ov ←eval o X.env
   standAt apos.atName
   let (f,first) ←holding [ov] (getMethod ov m pl)
   callWith pos f first (backTo pos (starEach [] X.env)) (backToKw pos (keywordEach [] X.env))):=by rfl) :
  DE X E (.Call (.Attribute o m apos) [] [] pos) (ZjG X.prog X.w X.K X.mg X.base k m E ta tNil) (meth tab m mo anil):=⟨ZjK ho.p (hr.mono hn) hx ht,ZmV T ho.s Zmw Zkp⟩
end
theorem ZeF.nil{K:W.Frag}{mg:Str→Option Value}{f:Str}:ZeF K mg [] f:=fun _ h=>by cases h
theorem ZeF.cons{K:W.Frag}{mg:Str→Option Value}{c f:Str}{cs:List Str}(h:∀C,mg c=some (.ref C)→Cls K C∧Zde K C f)(r:ZeF K mg cs f):ZeF K mg (c::cs) f:=fun c' hc=>by
 rw [List.contains_cons] at hc
 cases z:c'==c with
 | true=>rw [eq_of_beq z];exact h
 | false =>
  rw [z,Bool.false_or] at hc
  exact r c' hc
theorem Ziz{f:Str}{y:V}:∀{fs:List (Str×V)},¬(fs.map (·.1)).contains f=true→putF f y fs=fs++[(f,y)]
 | [],_=>rfl
 | (g,x)::r,h=>by
  rw [List.map_cons,List.contains_cons] at h
  have hg:g≠f:=by
   rintro rfl
   exact h (by rw [show ((g,x).fst==g)=true from beq_self_eq_true g];rfl)
  show (if g=f then (g,y)::r else (g,x)::putF f y r)=_
  rw [if_neg hg,Ziz fun q=>h (by rw [q,Bool.or_true])]
  rfl
structure ClsM(K:W.Frag)(C:Addr)(m:Str)(f:Addr):Prop where
 sg:W.specialIn K (.ref C) "__getattribute__"=some (some (.builtin "type.__getattribute__"))
 rd:∃mc,W.readsIn K C mc=true∧W.findCls K (.ref C) mc m=some (.val (.ref f))
 hh:W.handedIn (.ref f)=true
 kp:W.keepIn K (.ref f)=true
section
variable{X:Cx}{E:XK}{k:Nat}{y m:Str}{C f:Addr}{fd:FuncData}{ps:List Str}{sp:Sp}{e:Expr}{es:List Expr}{t:TA}{p pos apos:Pos}{pl:Sem Bool}
theorem Zoi(hg:Gl X y)(hy:X.mg y=some (.ref C))(c:ClsM X.K C m f)(F:FnOk X.prog X.w X.K X.mg X.base (CXR X.prog X.w) k f fd ps sp)(hr:Room k X.A)(hb:Binds X.K fd ps [])(hx:Zch (CXR X.prog X.w) X E)(ha:PA X (e::es) t)(hd:(y==("__debug__" : Str))=false:=by decide)
  (hst:starEach (e::es) X.env=(false,eval e X.env)::starEach es X.env:=by rfl) (hpl:(backTo pos (starEach es X.env)).any (·.1)=false:=by rfl)
  (ht:eval (.Call (.Attribute (.Name y p) m apos) (e::es) [] pos) X.env=(do
   let ov ←eval (.Name y p) X.env
   standAt apos.atName
   let (f,first) ←holding [ov] (getMethod ov m pl)
   callWith pos f first (backTo pos (starEach (e::es) X.env)) (backToKw pos (keywordEach [] X.env))):=by rfl) :
  PE X (.Call (.Attribute (.Name y p) m apos) (e::es) [] pos) (ZhI sp [] E t):=by
 intro pins s σ H Q I h
 refine W.methodCall_KW (pl:=pl) (thn (Zfo (v:=.ref C) hg hy rfl hd pins s σ H (fun v H1=>v=.ref C∧H1=H) I ⟨rfl,rfl⟩) fun u s1 ⟨x,H1,I1,rx,ex,eh⟩=>?_) ht
 subst ex eh
 obtain rfl:u=Value.ref C:=rx
 obtain ⟨mc,r1,r2⟩:=c.rd
 refine W.method_cls I1.kIn c.sg (W.cls_value I1.kIn r1 r2 c.hh ?_)
 have I2:=I1.tok (s1.toks+1)
 refine W.callWith_K (first:=[]) (h₀:=X.base) I.ok.mod.kin c.kp (thn (ha pos pins _ σ H1 _ I2 h) fun us s2 ⟨vs,H2,I3,r,q2⟩=>⟨I3.kIn,?_⟩) hst hpl
 exact Zku (us:=us) (vs:=vs) (dvs:=[]) F hr hb .nil hx I3 r q2
end
section
variable{P:Program}{w:World}{K:W.Frag}{mg:Str→Option Value}{base:Heap}{N ps:List Str}{x qual:Str}{f:Addr}{cs:List Str}
theorem Zi1{F H:Hp}{z:V}{a:Addr}{vs:List V}{ds:List D}(s:Same F H)(fa:F a=none)(r:Rps K mg F vs ds)(hN:1≤N.length):Rep K mg F (del H a) F H (start N (z::vs)) (.no::ev0 (N.length - 1) ds):=by
 have hl:=r.length
 have key:∀(i:Nat) (c:Cl),(ev0 (N.length - 1) ds)[i]?=some c→c=.no∨∃d,ds[i]?=some d∧c=.im d:=by
  intro i c e
  rw [Zg7] at e
  by_cases hi:i<ds.length
  ·rw [List.getElem?_append_left (by simpa using hi),List.getElem?_map,List.getElem?_eq_getElem hi] at e
   exact .inr ⟨ds[i],List.getElem?_eq_getElem hi,(Option.some.inj e).symm⟩
  ·rw [List.getElem?_append_right (by simpa using hi),List.getElem?_replicate] at e
   split at e
   ·exact .inl (Option.some.inj e).symm
   ·cases e
 have key2:∀(i:Nat) (c:Cl),(Cl.no::ev0 (N.length - 1) ds)[i]?=some c→c=.no∨∃d j,i=j+1∧ds[j]?=some d∧c=.im d:=by
  intro i c e
  cases i with
  | zero=>exact .inl (Option.some.inj e).symm
  | succ j =>
   rcases key j c (by simpa using e) with q | ⟨d,e1,e2⟩
   ·exact .inl q
   ·exact .inr ⟨d,j,rfl,e1,e2⟩
 refine ⟨⟨Same.refl _,s,fun b o h1 h2=>⟨h1,?_⟩⟩,?_,fun i d e=>?_,fun i ds' e=>?_,fun i j ds' es' a e=>?_⟩
 ·by_cases hb:b=a
  ·subst hb;rw [Zip] at h2;cases h2
  ·rw [Zga hb] at h2;exact h2
 ·rw [Zg7]
  unfold start
  simp [hl]
  omega
 ·rcases key2 i _ e with q | ⟨d',j,rfl,e1,q⟩
  ·cases q
  ·cases q
   obtain ⟨v,e2,rv⟩:=r.get e1
   refine ⟨v,?_,rv⟩
   have hi:j<vs.length:=(List.getElem?_eq_some_iff.mp e2).1
   unfold start
   rw [List.map_cons,List.cons_append,List.getElem?_cons_succ,List.getElem?_append_left (by simpa using hi),List.getElem?_map,e2]
   rfl
 ·rcases key2 i _ e with q | ⟨d',j,_,e1,q⟩<;>cases q
 ·rcases key2 i _ e with q | ⟨d',j,_,e1,q⟩<;>cases q
theorem okM{st:Stmt}{fd:FuncData}{k:Nat}{mb:MS}(F:Fun K x qual st f fd)(S:Zaj N ps (Zaf st))
  (h:∀(cdv:Value) (A:Around) (outer:List Env) (s:Shared) (H:Hp) (E:XK),Room k (A.deeper (envOfC qual (Zaf st) s.heap.objs.size f cdv))→∃t,DSs (cxOf (CXR P w) P w K mg base N qual (Zaf st) f cdv A outer s H E) E (ZbS st) t mb) :
  FnOk P w K mg base (CXR P w) (k+1) f fd ps (spD K mg ps.length (fn N.length mb)):=by
 obtain ⟨oc,od,kV,doc,pm,an,cdv,ct,osl,rfl,lk,hcd⟩:=F.ex
 refine ZkQ lk hcd S (fun vs H Q E q=>q.1) fun A outer s H vs Q E hr hsp=>?_
 obtain ⟨t,hd⟩:=h cdv A outer s H E hr
 refine ⟨t,hd.p,?_⟩
 obtain ⟨_,F0,ds,s0,rs,hb,hok,hex⟩:=hsp
 have z:=hd.s F0 H F0 H (start N vs) (ev0 N.length ds) (ZfG s0 rs)
 unfold fn at hb hok hex
 cases e:mb (ev0 N.length ds) with
 | ok fl =>
  rw [e] at z hb hok hex
  cases fl with
  | nx ρ=>exact z _ fun F' H' σ' _ r'=>hok .non rfl F' H' .non r'.g .non
  | rt d=>exact z _ fun F' H' v g rv=>hok d rfl F' H' v g rv
  | bk ρ=>exact absurd rfl hb
  | ct ρ=>exact absurd rfl hb
 | ex c =>
  rw [e] at z hex
  exact z _ fun F' H' C g hc=>hex c rfl F' H' C g hc
 | bad=>rw [e] at hb;exact absurd rfl hb
end
end L2.Ds
namespace Dl
open PySem
end Dl
namespace L2
open PySem PySem.Spec PyProof.Rows
end L2
namespace L2.Ds
open PySem PySem.Spec PyProof.Rows Dl
end L2.Ds
namespace Dl
open PySem
end Dl
namespace L2
open PySem PySem.Spec PyProof.Rows
end L2
namespace L2.Ds
open PySem PySem.Spec PyProof.Rows PySem.Calls Dl
end L2.Ds
namespace Dl
open PySem
end Dl
namespace L2
open PySem PySem.Spec PyProof.Rows PySem.Calls
end L2
namespace L2.Ds
open PySem PySem.Spec PyProof.Rows PySem.Calls Dl
end L2.Ds
namespace L2
open PySem PySem.Spec PyProof.Rows
end L2
namespace L2.Ds
open PySem PySem.Spec PyProof.Rows PySem.Calls Dl
end L2.Ds
namespace Dl
open PySem
def bIsO(tab:List (Str×Str×Bool)):List D→Res D
 | [.ins c _ _,.cls k]=>(ofO ((tab.find? fun e=>e.1==c&&e.2.1==k).map (·.2.2))).bind fun b=>.ok (.bl b)
 | _=>.bad
def Zh9(f:Str)(e:ME)(k:MSi):MSi:=fun ρ fl=>(e ρ).bind fun d=>if noL d=false∨(fl.map (·.1)).contains f=true∨100≤fl.length then .bad else k ρ (fl++[(f,d)])
def ZhP:D→Bool
 | .lst rows=>ZeN rows
 | _=>false
def ZkT(f:Str)(e:ME)(k:MSi):MSi:=fun ρ fl=>(e ρ).bind fun d=>if ZhP d=false∨(fl.map (·.1)).contains f=true∨100≤fl.length then .bad else k ρ (fl++[(f,d)])
def fnR(n:Nat)(m:ME):List D→Res D:=fun ds=>m (ev0 n ds)
end Dl
namespace HT
open PySem PyProof.Rows
end HT
namespace L2
open PySem PySem.Spec PyProof.Rows
end L2
namespace L2.Ds
open PySem PySem.Spec PyProof.Rows Dl
structure TabI(K:W.Frag)(mg:Str→Option Value)(tab:List (Str×Str×Bool)):Prop where
 c:∀e∈tab,∃D C,mg e.1=some (.ref D)∧mg e.2.1=some (.ref C)∧Cls K D∧W.findIn K (.ref D) "__class__"=some (some (.builtin "object.__class__")) ∧
  W.specialIn K (.builtin "object.__class__") "__get__"=some (some (.builtin "getset_descriptor.__get__"))∧W.takesIn K (.builtin "object.__class__")=some true∧W.mroIn K D (.type "object")=some true∧W.kitOne K (.ref D) (.ref C)=some e.2.2
theorem TabI.nil{K:W.Frag}{mg:Str→Option Value}:TabI K mg []:=⟨fun _ h=>by cases h⟩
theorem TabI.cons{K:W.Frag}{mg:Str→Option Value}{a b:Str}{v:Bool}{tab:List (Str×Str×Bool)}{D C:Addr}(h1:mg a=some (.ref D))(h2:mg b=some (.ref C))(h3:Cls K D)(h4:W.findIn K (.ref D) "__class__"=some (some (.builtin "object.__class__")))
  (h5:W.specialIn K (.builtin "object.__class__") "__get__"=some (some (.builtin "getset_descriptor.__get__"))) (h6:W.takesIn K (.builtin "object.__class__")=some true) (h7:W.mroIn K D (.type "object")=some true) (h8:W.kitOne K (.ref D) (.ref C)=some v) (r:TabI K mg tab):TabI K mg ((a,b,v)::tab) :=
 ⟨fun e he=>by
  rcases List.mem_cons.mp he with rfl | he
  ·exact ⟨D,C,h1,h2,h3,h4,h5,h6,h7,h8⟩
  ·exact r.c e he⟩
def rIsO(K:W.Frag):List V→Hp→VK→Prop:=fun xs H Q=>∃x C t b,xs=[x,.ref C]∧TyOf K H x t∧W.kitOne K t (.ref C)=some b∧Q (.bl b) H
theorem Zc9{K:W.Frag}{mg:Str→Option Value}{tab:List (Str×Str×Bool)}(T:TabI K mg tab):CallD K mg (rIsO K) (bIsO tab):=by
 intro E F H xs ds s r
 unfold bIsO
 split
 ·next c ns vs k =>
  obtain ⟨x,y,rfl,rx,ry⟩:=r.two
  cases q:tab.find? fun e=>e.1==c&&e.2.1==k with
  | none=>trivial
  | some en =>
   have hp:=List.find?_some q
   have hmem:=List.mem_of_find?_eq_some q
   rw [Bool.and_eq_true,beq_iff_eq,beq_iff_eq] at hp
   obtain ⟨D',C',m1,m2,h3,h4,h5,h6,h7,h8⟩:=T.c en hmem
   cases rx with
   | @ins _ C a dx fs xs _ hm h o q' r' =>
    cases ry with
    | cls hk =>
     rw [hp.1,hm] at m1
     rw [hp.2,hk] at m2
     cases m1
     cases m2
     show Ans mg E (Rp K mg) F H (.ok (.bl en.2.2)) _
     exact .ret s (.bl _) fun Q q=>⟨_,_,_,_,rfl,.ins (s _ _ h) h3 h4 h5 h6 h7,h8,q⟩
 ·trivial
def Fr(K:W.Frag)(mg:Str→Option Value)(G F:Hp)(x:V)(d:D):Prop:=∀G':Hp,(∀b o,F b=some o→(G b=none∨∀xs,o≠.lst xs)→G' b=some o)→Rp K mg G' x d
section
variable{K:W.Frag}{mg:Str→Option Value}{E:XK}{G Gb F F' F0 H0 H:Hp}{x:V}{d:D}{σ:St}{ρ:Ev}
theorem Fr.rp(h:Fr K mg G F x d):Rp K mg F x d:=h F fun _ _ e _=>e
theorem Fr.up(h:Fr K mg G F x d)(s:Same F F'):Fr K mg G F' x d:=fun G' k=>h G' fun b o e z=>k b o (s b o e) z
theorem Fr.noL(h:Rp K mg F x d)(p:noL d=true):Fr K mg G F x d:=fun G' k=>Zmx (fun b o e z=>k b o e (.inr z)) h p
def Zgn(K:W.Frag)(mg:Str→Option Value)(Fb F':Hp)(x:V)(d:D):Prop:=∃p xs rows,x=.ref p∧d=.lst rows∧Fb p=none∧F' p=some (.lst xs)∧xs.length=rows.length∧∀(k:Nat) (y:V) (d:D),xs[k]?=some y→rows[k]?=some d→RowR K mg Fb F' y d
theorem RowR.down{y:V}(h:RowR K mg G F' y d)(s:Same Gb G):RowR K mg Gb F' y d:=by
 obtain ⟨q,ys,cs,e1,e2,h1,h2,h3⟩:=h
 exact ⟨q,ys,cs,e1,e2,s.free h1,h2,h3⟩
theorem Zgn.down(h:Zgn K mg G F' x d)(s:Same Gb G):Zgn K mg Gb F' x d:=by
 obtain ⟨p,xs,rows,e1,e2,h1,h2,h3,h4⟩:=h
 exact ⟨p,xs,rows,e1,e2,s.free h1,h2,h3,fun k y d a b=>(h4 k y d a b).down s⟩
theorem Zgn.fr(h:Zgn K mg G F x d)(hr:ZhP d=true):Fr K mg G F x d:=by
 obtain ⟨p,xs,rows,rfl,rfl,h1,h2,h3,h4⟩:=h
 intro G' k
 refine .lst (SqL.of (k p _ h2 (.inl h1))) (Ziw h3 fun m y e a b=>?_)
 obtain ⟨q,ys,cs,rfl,rfl,q1,q2,q3⟩:=h4 m y e a b
 obtain ⟨_,ec,hn⟩:=Zf9 (show ZeN rows=true from hr) b
 cases ec
 exact .lst (SqL.of (k q _ q2 (.inl q1))) (ZhT (fun b o e z=>k b o e (.inr z)) q3 hn)
def SEr(K:W.Frag)(mg:Str→Option Value)(E:XK)(t:TE)(m:ME):Prop:=∀Fb F0 H0 F H σ ρ,Rep K mg F0 H0 F H σ ρ→Same Fb F→Ans mg E (Zgn K mg Fb) F H (m ρ) (t σ H)
def SEf(K:W.Frag)(mg:Str→Option Value)(E:XK)(t:TE)(m:ME):Prop:=∀F0 H0 F H σ ρ,Rep K mg F0 H0 F H σ ρ→Ans mg E (Fr K mg F) F H (m ρ) (t σ H)
theorem SEf.se{t:TE}{m:ME}(h:SEf K mg E t m):SE K mg E t m:=by
 intro F0 H0 F H σ ρ rr
 have z:=h F0 H0 F H σ ρ rr
 generalize m ρ=r at z
 cases r with
 | ok d=>exact fun Q q=>z Q fun F1 H1 x g rx=>q F1 H1 x g rx.rp
 | ex c=>exact z
 | bad=>trivial
def spR(K:W.Frag)(mg:Str→Option Value)(k:Nat)(f:List D→Res D):Sp:=fun vs H Q E=>vs.length=k∧∃F ds,Same F H∧Rps K mg F vs ds∧f ds≠.bad ∧
 (∀d,f ds=.ok d→∀F' H' x,Gr F H F' H'→Zgn K mg F F' x d→Q x H')∧(∀c,f ds=.ex c→∀F' H' C,Gr F H F' H'→mg c=some (.ref C)→E (.ref C) none H')
def AnsR(K:W.Frag)(mg:Str→Option Value)(E:XK)(F0 H0:Hp)(r:Res D)(w:Ends→Prop):Prop :=
 match r with
 | .ok d=>∀D:Ends,(∀F' H' x,Gr F0 H0 F' H'→Zgn K mg F0 F' x d→D.rt x H')→w D
 | .ex c=>∀D:Ends,(∀F' H' C,Gr F0 H0 F' H'→mg c=some (.ref C)→E (.ref C) none H')→w D
 | .bad=>True
end
structure DEr(X:Cx)(E:XK)(e:Expr)(t:TE)(m:ME):Prop where
 p:PE X e t
 s:SEr X.K X.mg E t m
structure DEf(X:Cx)(E:XK)(e:Expr)(t:TE)(m:ME):Prop where
 p:PE X e t
 s:SEf X.K X.mg E t m
theorem DEf.de{X:Cx}{E:XK}{e:Expr}{t:TE}{m:ME}(h:DEf X E e t m):DE X E e t m:=⟨h.p,h.s.se⟩
structure CalR(P:Program)(w:World)(K:W.Frag)(mg:Str→Option Value)(base:Heap)(k:Nat)(x:Str)(ps:List Str)(m:List D→Res D):Prop where
 ex:∃(f:Addr) (fd:FuncData),FnOk P w K mg base (CXR P w) k f fd ps (spR K mg ps.length m)∧Binds K fd ps []∧W.keepIn K (.ref f)=true∧mg x=some (.ref f)
structure DSr(X:Cx)(E:XK)(sts:List Stmt)(t:TS)(m:ME):Prop where
 p:PSs X sts t
 s:∀F0 H0 F H σ ρ,Rep X.K X.mg F0 H0 F H σ ρ→AnsR X.K X.mg E F0 H0 (m ρ) (fun D=>t D σ H)
section
variable{X:Cx}{E:XK}{k l n i nn:Nat}{x y:Str}{ps:List Str}{f:List D→Res D}{t:TA}{m:MA}{e:Expr}{es:List Expr}{p pos pos' spos:Pos}
theorem Zok(C:CalR X.prog X.w X.K X.mg X.base k x ps f)(hr:Room l X.A)(hn:k≤l)(hg:Gl X x)(hx:Zch (CXR X.prog X.w) X E)(ha:DA X E n (e::es) t m)(hps:ps.length=n:=by rfl)
  (hdb:(x==("__debug__" : Str))=false:=by decide) (he:starEach (e::es) X.env=(false,eval e X.env)::starEach es X.env:=by rfl) (hpl:(backTo pos (starEach es X.env)).any (·.1)=false:=by rfl) :
  DEr X E (.Call (.Name x p) (e::es) [] pos) (ZhI (spR X.K X.mg ps.length f) [] E t) (on f m):=by
 obtain ⟨g,fd,F,b,kp,hm⟩:=C.ex
 refine ⟨ZkA F (hr.mono hn) hg hm kp b .nil hx ha.p hdb he hpl,fun Fb F0 H0 Ff H σ ρ rr sb=>?_⟩
 refine (ha.s F0 H0 Ff H σ ρ rr).bindE (w':=fun vs H1 Q=>spR X.K X.mg ps.length f (vs++[]) H1 Q E) fun ds em F1 H1 vs g1 rs=>?_
 simp only [List.append_nil]
 cases ef:f ds with
 | bad=>trivial
 | ex c=>exact fun Q q=>⟨by rw [rs.length,hps];exact ha.n ρ ds em,F1,ds,g1.s,rs,(by rw [ef];intro z;cases z),(fun d z=>by rw [ef] at z;cases z),fun c' z F' H' C g hC=>by
   rw [ef] at z;cases z
   exact q F' H' C g hC⟩
 | ok d=>exact fun Q q=>⟨by rw [rs.length,hps];exact ha.n ρ ds em,F1,ds,g1.s,rs,(by rw [ef];intro z;cases z),(fun d' z F' H' x g rx=>by
   rw [ef] at z;cases z
   exact q _ _ _ g (rx.down (sb.trans g1.f))),fun c' z=>by rw [ef] at z;cases z⟩
end
section
variable{X:Cx}{E:XK}{tg iter elt:Expr}{ts:List Expr}{me:ME}{na:MB}{pos spos:Pos}
theorem ZlR{own:List Str}{cap:List (Str×Nat)}{scope:Scope}{cl:List (Str×Addr)}{wi:TI}{mi:MI}{g:Fam TG}{gm:MG}{tt:Fam TT}{tf:Fam TE}(hi:DI X E tg iter wi mi)(O:ZaG X own cap scope cl)(hc:X.calm=true)
  (hg:∀C s H fp pn,DG (ZaN X (own++cap.map (·.1)) scope cl C s H fp pn) own.length tg (g C s H fp pn) gm) (ht:∀C s H fp pn,DTs (ZaN X (own++cap.map (·.1)) scope cl C s H fp pn) E0 ts (tt C s H fp pn) na)
  (he:∀C s H fp pn,DEl (ZaN X (own++cap.map (·.1)) scope cl C s H fp pn) E0 elt (tf C s H fp pn) me) (hts:ts.length≤1:=by decide) (hs:∀x,foldedSetIterable iter X.env x=pure x:=by intro _;rfl) :
  DSr X E [.Return (some (.ListComp elt [⟨tg,iter,ts,0⟩] scope pos)) spos] (tRet (Zef wi g tt tf own cap)) (comp mi own.length (cap.map (·.2)) gm na me):=by
 refine ⟨Zew (Zkz (ZjZ hi.p O hc (fun C s H fp pn=>(hg C s H fp pn).p) (fun C s H fp pn=>(ht C s H fp pn).p) (fun C s H fp pn=>(he C s H fp pn).p) hts hs)),fun F0 H0 F H σ ρ rr=>?_⟩
 have h:=hi.s F0 H0 F H σ ρ rr
 unfold comp
 cases e:mi ρ with
 | ok ds =>
  rw [e] at h
  by_cases hl:ds.length≤LIM
  case neg =>
   show AnsR X.K X.mg E F0 H0 (if ds.length≤LIM then _ else Res.bad) _
   rw [if_neg hl];trivial
  show AnsR X.K X.mg E F0 H0 (if ds.length≤LIM then (noEx (Dl.Zao gm na me (noA own.length (capD ρ (cap.map (·.2)))) ds)).bind _ else Res.bad) _
  rw [if_pos hl]
  cases e2:Dl.Zao gm na me (noA own.length (capD ρ (cap.map (·.2)))) ds with
  | ok ys =>
   exact fun D q=>h _ fun F1 H1 J g1 jo=>fun C s H2 fp pn=>Zlb (rr.gr g1) jo (hg C s H2 fp pn).s (ht C s H2 fp pn).s (he C s H2 fp pn).s hl e2 _ fun F' H' xs g2 rs rwR _ _ p hp=>by
    have sn:Same F' (upd F' p (.lst xs)):=ZaP (g2.s.free hp) _
    exact q (upd F' p (.lst xs)) _ _ (((rr.g.trans g1).trans g2).trans (.new g2.s hp _)) ⟨p,xs,ys,rfl,rfl,(rr.g.f.trans (g1.f.trans g2.f)).free (g2.s.free hp),Zal,rs.length,fun k y d a b=>((rwR k y d a b).up sn).down (rr.g.f.trans g1.f)⟩
  | ex c=>trivial
  | bad=>trivial
 | ex c =>
  rw [e] at h
  exact fun D q=>h _ fun F' H' C g hC=>q F' H' C (rr.g.trans g) hC
 | bad=>trivial
end
section
variable{P:Program}{w:World}{K:W.Frag}{mg:Str→Option Value}{base:Heap}{N ps:List Str}{x:Str}
theorem _root_.L2.Def.calR{st:Stmt}{k:Nat}{m:ME}(Df:Def K mg x st ps)(S:Zaj N ps (Zaf st))
  (h:∀(f:Addr) (cdv:Value) (A:Around) (outer:List Env) (s:Shared) (H:Hp) (E:XK),Room k (A.deeper (envOfC x (Zaf st) s.heap.objs.size f cdv))→∃t,DSr (cxOf (CXR P w) P w K mg base N x (Zaf st) f cdv A outer s H E) E (ZbS st) t m) :
  CalR P w K mg base (k+1) x ps (fnR N.length m):=by
 obtain ⟨f,fd,F,b,hm⟩:=Df.ex
 refine ⟨⟨f,fd,?_,b,F.kp,hm⟩⟩
 obtain ⟨oc,od,kV,doc,pm,an,cdv,ct,osl,rfl,lk,hcd⟩:=F.ex
 refine ZkQ lk hcd S (fun vs H Q E q=>q.1) fun A outer s H vs Q E hr hsp=>?_
 obtain ⟨t,hd⟩:=h f cdv A outer s H E hr
 refine ⟨t,hd.p,?_⟩
 obtain ⟨_,F0,ds,s0,rs,hb,hok,hex⟩:=hsp
 have z:=hd.s F0 H F0 H (start N vs) (ev0 N.length ds) (ZfG s0 rs)
 unfold fnR at hb hok hex
 cases e:m (ev0 N.length ds) with
 | ok d =>
  rw [e] at z
  exact z _ fun F' H' x g rx=>hok d e F' H' x g rx
 | ex c =>
  rw [e] at z
  exact z _ fun F' H' C g hc=>hex c e F' H' C g hc
 | bad=>exact absurd e hb
end
structure FRt(K:W.Frag)(mg:Str→Option Value)(G F:Hp)(fs:List (Str×V))(fl:Fs):Prop where
 nm:fs.map (·.1)=fl.map (·.1)
 rv:Rps K mg F (fs.map (·.2)) (fl.map (·.2))
 nw:∀(k:Nat) (x:V) (d:D),(fs.map (·.2))[k]?=some x→(fl.map (·.2))[k]?=some d→Fr K mg G F x d
theorem FRt.same{K:W.Frag}{mg:Str→Option Value}{G F F':Hp}{fs:List (Str×V)}{fl:Fs}(h:FRt K mg G F fs fl)(s:Same F F'):FRt K mg G F' fs fl:=⟨h.nm,h.rv.same s,fun k x d h1 h2=>(h.nw k x d h1 h2).up s⟩
theorem FRt.len{K:W.Frag}{mg:Str→Option Value}{G F:Hp}{fs:List (Str×V)}{fl:Fs}(h:FRt K mg G F fs fl):fs.length=fl.length:=by
 have:=congrArg List.length h.nm
 rwa [List.length_map,List.length_map] at this
theorem FRt.put{K:W.Frag}{mg:Str→Option Value}{G F:Hp}{fs:List (Str×V)}{fl:Fs}{f:Str}{y:V}{d:D}(h:FRt K mg G F fs fl)(hn:¬(fl.map (·.1)).contains f=true)(ry:Fr K mg G F y d):FRt K mg G F (putF f y fs) (fl++[(f,d)]):=by
 rw [Ziz (by rw [h.nm];exact hn)]
 have hl:(fs.map (·.2)).length=(fl.map (·.2)).length:=by rw [List.length_map,List.length_map];exact h.len
 refine ⟨by rw [List.map_append,List.map_append,h.nm];rfl,?_,fun k x e h1 h2=>?_⟩
 ·rw [List.map_append,List.map_append]
  exact Rps.app (.cons ry.rp .nil) h.rv
 ·rw [List.map_append] at h1 h2
  by_cases hk:k<(fs.map (·.2)).length
  ·rw [List.getElem?_append_left hk] at h1
   rw [List.getElem?_append_left (by omega)] at h2
   exact h.nw k x e h1 h2
  ·rw [List.getElem?_append_right (by omega)] at h1
   rw [List.getElem?_append_right (by omega)] at h2
   have hk0:k - (fs.map (·.2)).length=0:=by
    have:=(List.getElem?_eq_some_iff.mp h1).1
    simp at this ⊢
    omega
   rw [hk0] at h1
   rw [show k - (fl.map (·.2)).length=0 by omega] at h2
   cases h1
   cases h2
   exact ry
def spJ(K:W.Frag)(mg:Str→Option Value)(n:Nat)(cs:List Str)(m:List D→Fs→Res Fs):Sp:=fun vs H Q E=>vs.length=n+1∧∃(x dx C:Addr) (c:Str) (ys:List V) (fs:List (Str×V)) (G F:Hp) (ds:List D) (fl:Fs),Same G F ∧
 vs=.ref x::ys∧cs.contains c=true∧mg c=some (.ref C)∧H x=some (.ins C dx fs)∧F x=none∧Same F H∧Rps K mg F ys ds∧FRt K mg G F fs fl∧m ds fl≠.bad ∧
 (∀fl',m ds fl=.ok fl'→∀F' H' fs',Gr F (del H x) F' H'→F' x=none→H' x=some (.ins C dx fs')→FRt K mg G F' fs' fl'→Q .non H') ∧
 (∀e,m ds fl=.ex e→∀F' H' fs' Ce,Gr F (del H x) F' H'→F' x=none→H' x=some (.ins C dx fs')→mg e=some (.ref Ce)→E (.ref Ce) none H')
structure RepJ(K:W.Frag)(mg:Str→Option Value)(G:Hp)(x dx C:Addr)(F0 H0 F H:Hp)(σ:St)(ρ:Ev)(fs:List (Str×V))(fl:Fs):Prop where
 rep:Rep K mg F0 H0 F H σ ρ
 h0:H0 x=none
 self:σ[0]?=some (some (.ref x))
 fx:F x=none
 hx:H x=some (.ins C dx fs)
 fr:FRt K mg G F fs fl
 sg:Same G F
section
variable{K:W.Frag}{mg:Str→Option Value}{x dx C:Addr}{G F0 H0 F H F' H':Hp}{σ:St}{ρ:Ev}{fs fs':List (Str×V)}{fl fl':Fs}
theorem RepJ.gr(r:RepJ K mg G x dx C F0 H0 F H σ ρ fs fl)(g:Gr F H F' H'):RepJ K mg G x dx C F0 H0 F' H' σ ρ fs fl:=by
 obtain ⟨q1,q2⟩:=g.o x _ r.fx r.hx
 exact ⟨r.rep.gr g,r.h0,r.self,q1,q2,r.fr.same g.f,r.sg.trans g.f⟩
theorem RepJ.go(r:RepJ K mg G x dx C F0 H0 F H σ ρ fs fl)(g:Gr F (del H x) F' H')(fx:F' x=none)(hx:H' x=some (.ins C dx fs'))(fr:FRt K mg G F' fs' fl'):RepJ K mg G x dx C F0 H0 F' H' σ ρ fs' fl':=by
 refine ⟨⟨⟨r.rep.g.f.trans g.f,g.s,fun a o h1 h2=>?_⟩,r.rep.len,fun i d e=>?_,fun i ds e=>?_,r.rep.ne⟩,r.h0,r.self,fx,hx,fr,r.sg.trans g.f⟩
 ·obtain ⟨q1,q2⟩:=r.rep.g.o a o h1 h2
  exact g.o a o q1 (by rw [Zga (Zai h2 r.h0)];exact q2)
 ·obtain ⟨y,h1,h2⟩:=r.rep.im i d e
  exact ⟨y,h1,h2.same g.f⟩
 ·obtain ⟨a,xs,h1,h2,h3,h4,h5⟩:=r.rep.ow i ds e
  have ne:a≠x:=by
   rintro rfl
   rw [r.hx] at h4
   cases h4
  obtain ⟨q1,q2⟩:=g.o a _ h3 (by rw [Zga ne];exact h4)
  exact ⟨a,xs,h1,h2,q1,q2,h5.same g.f⟩
theorem RepJ.set{f:Str}{y:V}{d:D}(r:RepJ K mg G x dx C F0 H0 F H σ ρ fs fl)(hn:¬(fl.map (·.1)).contains f=true)(ry:Fr K mg G F y d):RepJ K mg G x dx C F0 H0 F (upd H x (.ins C dx (putF f y fs))) σ ρ (putF f y fs) (fl++[(f,d)]):=by
 refine r.go ⟨Same.refl _,fun a o e=>?_,fun a o h1 h2=>⟨h1,?_⟩⟩ r.fx Zal (r.fr.put hn ry)
 ·rw [Zar (Zai e r.fx)];exact r.rep.g.s a o e
 ·have ne:a≠x:=by
   rintro rfl
   rw [Zip] at h2
   cases h2
  rw [Zga ne] at h2
  rw [Zar ne];exact h2
end
def AnsJ(K:W.Frag)(mg:Str→Option Value)(E:XK)(G:Hp)(x dx C:Addr)(F0 H0:Hp)(r:Res Fs)(w:Ends→Prop):Prop :=
 match r with
 | .ok fl=>∀D:Ends,(∀F' H' σ' fs,Gr F0 H0 F' H'→F' x=none→H' x=some (.ins C dx fs)→FRt K mg G F' fs fl→D.nx σ' H')→w D
 | .ex c=>∀D:Ends,(∀F' H' fs Ce,Gr F0 H0 F' H'→F' x=none→H' x=some (.ins C dx fs)→mg c=some (.ref Ce)→E (.ref Ce) none H')→w D
 | .bad=>True
def SSj(K:W.Frag)(mg:Str→Option Value)(E:XK)(cs:List Str)(t:TS)(m:MSi):Prop:=∀G x dx C c F0 H0 F H σ ρ fs fl,cs.contains c=true→mg c=some (.ref C)→RepJ K mg G x dx C F0 H0 F H σ ρ fs fl→AnsJ K mg E G x dx C F0 H0 (m ρ fl) (fun D=>t D σ H)
structure DSj(X:Cx)(E:XK)(cs:List Str)(sts:List Stmt)(t:TS)(m:MSi):Prop where
 p:PSs X sts t
 s:SSj X.K X.mg E cs t m
section
variable{K:W.Frag}{mg:Str→Option Value}{E:XK}{G:Hp}{x dx C:Addr}{F0 H0 F H:Hp}{α β:Type}{R:Hp→β→α→Prop}{σ:St}{ρ:Ev}{fs:List (Str×V)}{fl:Fs}
theorem Zeg{r:Res α}{w:(β→Hp→Prop)→Prop}{k:α→Res Fs}{w':β→Hp→Ends→Prop}(rr:RepJ K mg G x dx C F0 H0 F H σ ρ fs fl)(h1:Ans mg E R F H r w)(h2:∀a,r=.ok a→∀F1 H1 b,Gr F H F1 H1→R F1 b a→AnsJ K mg E G x dx C F0 H0 (k a) (w' b H1)) :
  AnsJ K mg E G x dx C F0 H0 (r.bind k) (fun D=>w fun b H1=>w' b H1 D):=by
 cases r with
 | ok a =>
  show AnsJ K mg E G x dx C F0 H0 (k a) _
  have h2':=h2 a rfl
  generalize k a=r2 at h2'
  cases r2 with
  | ok d=>exact fun D q=>h1 _ fun F1 H1 b g rb=>h2' F1 H1 b g rb D q
  | ex c=>exact fun D q=>h1 _ fun F1 H1 b g rb=>h2' F1 H1 b g rb D q
  | bad=>trivial
 | ex c=>exact fun D q=>h1 _ fun F1 H1 Ce g hc=>let r2:=rr.gr g;q F1 H1 fs Ce r2.rep.g r2.fx r2.hx hc
 | bad=>trivial
end
section
variable{X:Cx}{E:XK}{cs cs':List Str}{rest:List Stmt}{u:TS}{k:MSi}{e o:Expr}{es:List Expr}{te:TE}{me:ME}{t:TA}{ma:MA}{spos pos apos p p':Pos}{f x y m:Str}{n j l:Nat}
theorem Zhe:DSj X E cs [] ZkV iEnd:=⟨Zkd,fun G x dx C c F0 H0 F H σ ρ fs fl _ _ r=>fun D q=>q F H σ fs r.rep.g r.fx r.hx r.fr⟩
theorem ZeM(he:DE X E e te me)(h:DSj X E cs rest u k)(hs:swapsWith e none spos.line X.env=pure false:=by rfl):DSj X E cs (.Expr e spos::rest) (tSeq (ZfR te) u) (iDrp me k):=by
 refine ⟨ZcR (Zer he.p hs) h.p,?_⟩
 intro G x dx C c F0 H0 F H σ ρ fs fl hc hm r
 exact Zeg (w':=fun _ H1 D=>u D σ H1) r (he.s F0 H0 F H σ ρ r.rep) fun a _ F1 H1 b g _=>h.s G x dx C c F0 H0 F1 H1 σ ρ fs fl hc hm (r.gr g)
theorem ZgL(T:ZeF X.K X.mg cs f)(he:DE X E e te me)(h:DSj X E cs rest u k)(hN:X.N[0]?=some x:=by rfl)(hv:Vis X.env.scope x:=by first | exact Or.inl rfl | exact Or.inr (Or.inl rfl) | exact Or.inr (Or.inr rfl))(hd:(x==("__debug__" : Str))=false:=by decide)
  (hcd:(x==("__classdict__" : Str))=false:=by decide) (hs:swapsWith e (some (.Attribute (.Name x p) f p')) spos.line X.env=pure false:=by rfl) :
  DSj X E cs (.Assign [.Attribute (.Name x p) f p'] e spos::rest) (tSeq (sFld X.K (tVar 0) te f) u) (Zh9 f me k):=by
 refine ⟨ZcR (ZmE (ZdC hN hv hd hcd) he.p hs) h.p,?_⟩
 intro G x dx C c F0 H0 F H σ ρ fs fl hc hm r
 refine Zeg (w':=fun y H1 D=>(tVar 0) σ H1 fun z H2=>∃a C dx fs,z=.ref a∧H2 a=some (.ins C dx fs)∧Cls X.K C∧Zde X.K C f∧fs.length<1000∧u D σ (upd H2 a (.ins C dx (putF f y fs)))) r (he.s F0 H0 F H σ ρ r.rep) fun d _ F1 H1 y g ry=>?_
 have r1:=r.gr g
 by_cases hb:noL d=false∨(fl.map (·.1)).contains f=true∨100≤fl.length
 ·rw [if_pos hb];trivial
 rw [if_neg hb]
 obtain ⟨c1,c2⟩:=T c hc C hm
 have r2:=r1.set (f:=f) (fun z=>hb (.inr (.inl z))) (Fr.noL ry (by cases z:noL d with | true=>rfl | false=>exact absurd (.inl z) hb))
 have z:=h.s G x dx C c F0 H0 F1 _ σ ρ _ _ hc hm r2
 have hl:fs.length<1000:=by have:=r.fr.len;have:¬100≤fl.length:=fun z=>hb (.inr (.inr z));omega
 generalize k ρ (fl++[(f,d)])=q0 at z
 cases q0 with
 | ok fl'=>exact fun D q=>⟨_,r1.self,x,C,dx,fs,rfl,r1.hx,c1,c2,hl,z D q⟩
 | ex c=>exact fun D q=>⟨_,r1.self,x,C,dx,fs,rfl,r1.hx,c1,c2,hl,z D q⟩
 | bad=>trivial
theorem ZnH(T:ZeF X.K X.mg cs f)(he:DEr X E e te me)(h:DSj X E cs rest u k)(hN:X.N[0]?=some x:=by rfl)(hv:Vis X.env.scope x:=by first | exact Or.inl rfl | exact Or.inr (Or.inl rfl) | exact Or.inr (Or.inr rfl))(hd:(x==("__debug__" : Str))=false:=by decide)
  (hcd:(x==("__classdict__" : Str))=false:=by decide) (hs:swapsWith e (some (.Attribute (.Name x p) f p')) spos.line X.env=pure false:=by rfl) :
  DSj X E cs (.Assign [.Attribute (.Name x p) f p'] e spos::rest) (tSeq (sFld X.K (tVar 0) te f) u) (ZkT f me k):=by
 refine ⟨ZcR (ZmE (ZdC hN hv hd hcd) he.p hs) h.p,?_⟩
 intro G x dx C c F0 H0 F H σ ρ fs fl hc hm r
 refine Zeg (w':=fun y H1 D=>(tVar 0) σ H1 fun z H2=>∃a C dx fs,z=.ref a∧H2 a=some (.ins C dx fs)∧Cls X.K C∧Zde X.K C f∧fs.length<1000∧u D σ (upd H2 a (.ins C dx (putF f y fs)))) r (he.s G F0 H0 F H σ ρ r.rep r.sg) fun d _ F1 H1 y g ry=>?_
 have r1:=r.gr g
 by_cases hb:ZhP d=false∨(fl.map (·.1)).contains f=true∨100≤fl.length
 ·rw [if_pos hb];trivial
 rw [if_neg hb]
 obtain ⟨c1,c2⟩:=T c hc C hm
 have r2:=r1.set (f:=f) (fun z=>hb (.inr (.inl z))) (Zgn.fr ry (by cases z:ZhP d with | true=>rfl | false=>exact absurd (.inl z) hb))
 have z:=h.s G x dx C c F0 H0 F1 _ σ ρ _ _ hc hm r2
 have hl:fs.length<1000:=by have:=r.fr.len;have:¬100≤fl.length:=fun z=>hb (.inr (.inr z));omega
 generalize k ρ (fl++[(f,d)])=q0 at z
 cases q0 with
 | ok fl'=>exact fun D q=>⟨_,r1.self,x,C,dx,fs,rfl,r1.hx,c1,c2,hl,z D q⟩
 | ex c=>exact fun D q=>⟨_,r1.self,x,C,dx,fs,rfl,r1.hx,c1,c2,hl,z D q⟩
 | bad=>trivial
end
structure ZiU(P:Program)(w:World)(K:W.Frag)(mg:Str→Option Value)(base:Heap)(k:Nat)(y m:Str)(n:Nat)(cs:List Str)(g:List D→Fs→Res Fs):Prop where
 ex:∃(C f:Addr) (fd:FuncData) (ps:List Str),mg y=some (.ref C)∧ClsM K C m f∧FnOk P w K mg base (CXR P w) k f fd ps (spJ K mg n cs g)∧Binds K fd ps []
section
variable{X:Cx}{E:XK}{cs cs':List Str}{rest:List Stmt}{u:TS}{k:MSi}{e:Expr}{es:List Expr}{t:TA}{ma:MA}{spos pos apos p p':Pos}{x y m:Str}{n j l:Nat}{g:List D→Fs→Res Fs}{pl:Sem Bool}
theorem Zir(S:ZiU X.prog X.w X.K X.mg X.base j y m n cs' g)(hr:Room l X.A)(hn:j≤l)(hg:Gl X y)(hx:Zch (CXR X.prog X.w) X E)(hcs:∀c,cs.contains c=true→cs'.contains c=true)(ha:DA X E n es t ma)(h:DSj X E cs rest u k)
  (hN:X.N[0]?=some x:=by rfl) (hv:Vis X.env.scope x:=by first | exact Or.inl rfl | exact Or.inr (Or.inl rfl) | exact Or.inr (Or.inr rfl)) (hd:(x==("__debug__" : Str))=false:=by decide) (hcd:(x==("__classdict__" : Str))=false:=by decide) (hdy:(y==("__debug__" : Str))=false:=by decide)
  (hst:starEach (.Name x p'::es) X.env=(false,eval (.Name x p') X.env)::starEach es X.env:=by rfl) (hpl:(backTo pos (starEach es X.env)).any (·.1)=false:=by rfl)
  (ht:eval (.Call (.Attribute (.Name y p) m apos) (.Name x p'::es) [] pos) X.env=(do
   let ov ←eval (.Name y p) X.env
   standAt apos.atName
   let (f,first) ←holding [ov] (getMethod ov m pl)
   callWith pos f first (backTo pos (starEach (.Name x p'::es) X.env)) (backToKw pos (keywordEach [] X.env))):=by rfl)
  (hs:swapsWith (.Call (.Attribute (.Name y p) m apos) (.Name x p'::es) [] pos) none spos.line X.env=pure false:=by rfl) :
  DSj X E cs (.Expr (.Call (.Attribute (.Name y p) m apos) (.Name x p'::es) [] pos) spos::rest) (tSeq (ZfR (ZhI (spJ X.K X.mg n cs' g) [] E (ZdA (tVar 0) t))) u) (iSup g ma k):=by
 obtain ⟨C0,f,fd,ps,hy,cm,F,hb⟩:=S.ex
 refine ⟨ZcR (Zer (Zoi hg hy cm F (hr.mono hn) hb hx (Zcs (ZdC hN hv hd hcd) ha.p hst) hdy hst hpl ht) hs) h.p,?_⟩
 intro G x dx C c F0 H0 F H σ ρ fs fl hc hm r
 have A:=ha.s F0 H0 F H σ ρ r.rep
 have L:=ha.n ρ
 show AnsJ X.K X.mg E G x dx C F0 H0 ((ma ρ).bind fun ds=>(g ds fl).bind fun fl'=>k ρ fl') (fun D=>∃v,σ[0]?=some (some v)∧t σ H fun vs H1=>spJ X.K X.mg n cs' g (v::vs++[]) H1 (fun _ H2=>u D σ H2) E)
 have key:AnsJ X.K X.mg E G x dx C F0 H0 ((ma ρ).bind fun ds=>(g ds fl).bind fun fl'=>k ρ fl') (fun D=>t σ H fun vs H1=>spJ X.K X.mg n cs' g (.ref x::vs) H1 (fun _ H2=>u D σ H2) E):=by
  refine Zeg (w':=fun vs H1 D=>spJ X.K X.mg n cs' g (.ref x::vs) H1 (fun _ H2=>u D σ H2) E) r A fun ds eds F1 H1 vs g1 rs=>?_
  have r1:=r.gr g1
  have hl:vs.length=n:=rs.length.trans (L ds eds)
  cases eg:g ds fl with
  | bad=>trivial
  | ex ec =>
   show AnsJ X.K X.mg E G x dx C F0 H0 (.ex ec) _
   intro D q
   refine ⟨by rw [List.length_cons,hl],x,dx,C,c,vs,fs,G,F1,ds,fl,r1.sg,rfl,hcs c hc,hm,r1.hx,r1.fx,r1.rep.g.s,rs,r1.fr,(by rw [eg];intro z;cases z),(fun fl' e=>by rw [eg] at e;cases e),fun e' he F' H' fs' Ce g2 fx hx hce=>?_⟩
   rw [eg] at he
   cases he
   have r2:=r1.go (fl':=fl) (fs':=fs) (F':=F') (H':=H') g2 fx
   refine q F' H' fs' Ce ?_ fx hx hce
   refine ⟨r1.rep.g.f.trans g2.f,g2.s,fun a o h1 h2=>?_⟩
   obtain ⟨q1,q2⟩:=r1.rep.g.o a o h1 h2
   exact g2.o a o q1 (by rw [Zga (Zai h2 r.h0)];exact q2)
  | ok fl' =>
   show AnsJ X.K X.mg E G x dx C F0 H0 (k ρ fl') _
   have nx:∀F' H' fs',Gr F1 (del H1 x) F' H'→F' x=none→H' x=some (.ins C dx fs')→FRt X.K X.mg G F' fs' fl'→AnsJ X.K X.mg E G x dx C F0 H0 (k ρ fl') (fun D=>u D σ H'):=fun F' H' fs' g2 fx hx fr=>h.s G x dx C c F0 H0 F' H' σ ρ fs' fl' hc hm (r1.go g2 fx hx fr)
   generalize k ρ fl'=q0 at nx
   cases q0 with
   | bad=>trivial
   | ok fl2 =>
    intro D q
    refine ⟨by rw [List.length_cons,hl],x,dx,C,c,vs,fs,G,F1,ds,fl,r1.sg,rfl,hcs c hc,hm,r1.hx,r1.fx,r1.rep.g.s,rs,r1.fr,(by rw [eg];intro z;cases z),(fun fl'' e F' H' fs' g2 fx hx fr=>?_),fun e' he=>by rw [eg] at he;cases he⟩
    rw [eg] at e
    cases e
    exact nx F' H' fs' g2 fx hx fr D q
   | ex c2 =>
    intro D q
    refine ⟨by rw [List.length_cons,hl],x,dx,C,c,vs,fs,G,F1,ds,fl,r1.sg,rfl,hcs c hc,hm,r1.hx,r1.fx,r1.rep.g.s,rs,r1.fr,(by rw [eg];intro z;cases z),(fun fl'' e F' H' fs' g2 fx hx fr=>?_),fun e' he=>by rw [eg] at he;cases he⟩
    rw [eg] at e
    cases e
    exact nx F' H' fs' g2 fx hx fr D q
 generalize ((ma ρ).bind fun ds=>(g ds fl).bind fun fl'=>k ρ fl')=q0 at key
 cases q0 with
 | bad=>trivial
 | ok fl'=>exact fun D q=>⟨.ref x,r.self,by simpa using key D q⟩
 | ex c'=>exact fun D q=>⟨.ref x,r.self,by simpa using key D q⟩
end
section
variable{P:Program}{w:World}{K:W.Frag}{mg:Str→Option Value}{base:Heap}{N ps:List Str}{x qual:Str}{f:Addr}{cs:List Str}
theorem okJ{st:Stmt}{fd:FuncData}{k n:Nat}{mb:MSi}(F:Fun K x qual st f fd)(S:Zaj N ps (Zaf st))(hN:1≤N.length)(hp:ps.length=n+1)
  (h:∀(cdv:Value) (A:Around) (outer:List Env) (s:Shared) (H:Hp) (E:XK),Room k (A.deeper (envOfC qual (Zaf st) s.heap.objs.size f cdv))→∃t,DSj (cxOf (CXR P w) P w K mg base N qual (Zaf st) f cdv A outer s H E) E cs (ZbS st) t mb) :
  FnOk P w K mg base (CXR P w) (k+1) f fd ps (spJ K mg n cs (fnI N.length mb)):=by
 obtain ⟨oc,od,kV,doc,pm,an,cdv,ct,osl,rfl,lk,hcd⟩:=F.ex
 refine ZkQ lk hcd S (fun vs H Q E q=>q.1.trans hp.symm) fun A outer s H vs Q E hr hsp=>?_
 obtain ⟨t,hd⟩:=h cdv A outer s H E hr
 refine ⟨t,hd.p,?_⟩
 obtain ⟨_,x,dx,C,c,ys,fs,G,F0,ds,fl,sg,rfl,hc,hm,hx,fx,s0,rs,fr,hb,hok,hex⟩:=hsp
 have z:=hd.s G x dx C c F0 (del H x) F0 H (start N (.ref x::ys)) (.no::ev0 (N.length - 1) ds) fs fl hc hm ⟨Zi1 s0 fx rs hN,Zip,rfl,fx,hx,fr,sg⟩
 unfold fnI at hb hok hex
 cases e:mb (.no::ev0 (N.length - 1) ds) fl with
 | ok fl' =>
  rw [e] at z
  exact z _ fun F' H' σ' fs' g fx' hx' fr'=>hok fl' e F' H' fs' g fx' hx' fr'
 | ex c' =>
  rw [e] at z
  exact z _ fun F' H' fs' Ce g fx' hx' hce=>hex c' e F' H' fs' Ce g fx' hx' hce
 | bad=>exact absurd e hb
end
structure CalJ(P:Program)(w:World)(K:W.Frag)(mg:Str→Option Value)(base:Heap)(k:Nat)(c:Str)(n:Nat)(cs:List Str)(g:List D→Fs→Res Fs):Prop where
 ex:∃(C f:Addr) (fd:FuncData) (ps:List Str),mg c=some (.ref C)∧Mk K C f∧FnOk P w K mg base (CXR P w) k f fd ps (spJ K mg n cs g)∧Binds K fd ps []∧cs.contains c=true
def Zme(K:W.Frag)(mg:Str→Option Value)(c:Str)(n:Nat)(cs:List Str)(g:List D→Fs→Res Fs)(E:XK)(t:TA):TE:=fun σ H Q=>∃C,mg c=some (.ref C)∧ZnP C (spJ K mg n cs g) [] E t σ H Q
section
variable{K:W.Frag}{mg:Str→Option Value}{E:XK}{c:Str}{n:Nat}{cs:List Str}{g:List D→Fs→Res Fs}{t:TA}{ma:MA}
theorem ZmJ{C:Addr}(hm:mg c=some (.ref C))(hc:cs.contains c=true)(ha:SA K mg E t ma)(hl:SAn n ma):SEf K mg E (Zme K mg c n cs g E t) (make c g ma):=by
 intro F0 H0 F H σ ρ rr
 refine Ans.imp (w:=fun Q=>ZnP C (spJ K mg n cs g) [] E t σ H Q) ?_ fun Q q=>⟨C,hm,q⟩
 show Ans mg E (Fr K mg F) F H ((ma ρ).bind fun ds=>(g ds []).bind fun fl=>.ok (.ins c (fl.map (·.1)) (fl.map (·.2)))) _
 refine (ha F0 H0 F H σ ρ rr).bindE (w':=fun vs H1 (Q:V→Hp→Prop)=>∀x dx,H1 x=none→H1 dx=none→dx≠x→spJ K mg n cs g (.ref x::(vs++[])) (upd (upd H1 dx (.own x)) x (.ins C dx [])) (fun v H2=>v=.non∧Q (V.ref x) H2) E) fun ds eds F1 H1 vs g1 rs=>?_
 have hl':vs.length=n:=rs.length.trans (hl ρ ds eds)
 have base:∀x dx,H1 x=none→H1 dx=none→dx≠x→F1 x=none∧F1 dx=none∧Same F1 (upd (upd H1 dx (.own x)) x (.ins C dx []))∧del (upd (upd H1 dx (.own x)) x (.ins C dx [])) x=upd H1 dx (.own x):=by
  intro x dx hx hdx hne
  refine ⟨g1.s.free hx,g1.s.free hdx,fun a o e=>?_,?_⟩
  ·have z:=g1.s a o e
   rw [Zar (Zai z hx),Zar (Zai z hdx)]
   exact z
  ·funext a
   by_cases h:a=x
   ·subst h;rw [Zip,Zar (Ne.symm hne)];exact hx.symm
   ·rw [Zga h,Zar h]
 cases eg:g ds [] with
 | bad=>trivial
 | ex ec =>
  show Ans mg E (Fr K mg F) F1 H1 (.ex ec) _
  intro Q q x dx hx hdx hne
  obtain ⟨f1,f2,s1,e1⟩:=base x dx hx hdx hne
  refine ⟨by simp [hl'],x,dx,C,c,vs,[],F,F1,ds,[],g1.f,by simp,hc,hm,Zal,f1,s1,rs,⟨rfl,.nil,fun k x d h1=>by simp at h1⟩,(by rw [eg];intro z;cases z),(fun fl' e=>by rw [eg] at e;cases e),fun e' he F' H' fs' Ce g2 fx hx' hce=>?_⟩
  rw [eg] at he
  cases he
  rw [e1] at g2
  refine q F' H' Ce ⟨g2.f,g2.s,fun a o h1 h2=>?_⟩ hce
  exact g2.o a o h1 (by rw [Zar (Zai h2 hdx)];exact h2)
 | ok fl =>
  show Ans mg E (Fr K mg F) F1 H1 (.ok (.ins c (fl.map (·.1)) (fl.map (·.2)))) _
  intro Q q x dx hx hdx hne
  obtain ⟨f1,f2,s1,e1⟩:=base x dx hx hdx hne
  refine ⟨by simp [hl'],x,dx,C,c,vs,[],F,F1,ds,[],g1.f,by simp,hc,hm,Zal,f1,s1,rs,⟨rfl,.nil,fun k x d h1=>by simp at h1⟩,(by rw [eg];intro z;cases z),(fun fl' e F' H' fs' g2 fx hx' fr=>?_),fun e' he=>by rw [eg] at he;cases he⟩
  rw [eg] at e
  cases e
  rw [e1] at g2
  obtain ⟨d1,d2⟩:=g2.o dx _ f2 Zal
  refine ⟨rfl,q (upd (upd F' dx (.own x)) x (.ins C dx fs')) H' (.ref x) ⟨?_,?_,fun a o h1 h2=>?_⟩ ?_⟩
  ·refine (g2.f.trans (ZaP d1 _)).trans (ZaP ?_ _)
   rw [Zar (Ne.symm hne)];exact fx
  ·intro a o e
   by_cases ha:a=x
   ·subst ha;rw [Zal] at e;cases e;exact hx'
   ·rw [Zar ha] at e
    by_cases hb:a=dx
    ·subst hb;rw [Zal] at e;cases e;exact d2
    ·rw [Zar hb] at e;exact g2.s a o e
  ·have n1:a≠x:=Zai h2 hx
   have n2:a≠dx:=Zai h2 hdx
   obtain ⟨q1,q2⟩:=g2.o a o h1 (by rw [Zar n2];exact h2)
   rw [Zar n1,Zar n2]
   exact ⟨q1,q2⟩
  ·have sF:Same F' (upd (upd F' dx (.own x)) x (.ins C dx fs')):=(ZaP d1 _).trans (ZaP (by rw [Zar (Ne.symm hne)];exact fx) _)
   intro G' kp
   have z:Rp K mg G' (.ref x) (.ins c (fs'.map (·.1)) (fl.map (·.2))):=.ins hm (kp x _ Zal (.inr fun _ z=>by cases z)) (kp dx _ (by rw [Zar hne,Zal]) (.inr fun _ z=>by cases z)) rfl (Ziw (by rw [List.length_map,List.length_map];exact fr.len) fun k y d h1 h2=>(fr.nw k y d h1 h2).up sF G' kp)
   rw [fr.nm] at z
   exact z
end
section
variable{X:Cx}{E:XK}{k l n:Nat}{c:Str}{cs:List Str}{g:List D→Fs→Res Fs}{e:Expr}{es:List Expr}{t:TA}{ma:MA}{p pos:Pos}
theorem Zdg(M:CalJ X.prog X.w X.K X.mg X.base k c n cs g)(hr:Room l X.A)(hn:k+1≤l)(hg:Gl X c)(hx:Zch (CXR X.prog X.w) X E)(ha:DA X E n (e::es) t ma)
  (hdb:(c==("__debug__" : Str))=false:=by decide) (he:starEach (e::es) X.env=(false,eval e X.env)::starEach es X.env:=by rfl) (hpl:(backTo pos (starEach es X.env)).any (·.1)=false:=by rfl) :
  DEf X E (.Call (.Name c p) (e::es) [] pos) (Zme X.K X.mg c n cs g E t) (make c g ma):=by
 obtain ⟨C,f,fd,ps,hm,mk,F,hb,hc⟩:=M.ex
 refine ⟨?_,ZmJ hm hc ha.s ha.n⟩
 intro pins s σ H Q I ⟨C',hC,h⟩
 rw [hm] at hC
 cases hC
 exact Zm8 mk F (hr.mono hn) hg hm hb .nil hx ha.p hdb he hpl pins s σ H Q I h
end
end L2.Ds
namespace Dl
open PySem
end Dl
namespace L2.Ds
open PySem PySem.Spec PyProof.Rows Dl
section
variable{K:W.Frag}{mg:Str→Option Value}{E:XK}{G Gb F F' F0 H0 H:Hp}{x:V}{d:D}{σ:St}{ρ:Ev}
theorem Zoe{α:Type}{r:Res α}{a:α}(h:noEx r=.ok a):r=.ok a:=by
 cases r with
 | ok b=>exact h
 | ex c=>cases h
 | bad=>cases h
theorem ZnQ{α β:Type}{r:Res α}{f:α→Res β}{b:β}(h:r.bind f=.ok b):∃a,r=.ok a∧f a=.ok b:=by
 cases r with
 | ok a=>exact ⟨a,rfl,h⟩
 | ex c=>cases h
 | bad=>cases h
end
end L2.Ds
namespace Dl
open PySem
end Dl
namespace L2.Ds
open PySem PySem.Spec PyProof.Rows Dl
theorem Zej{X:Cx}:ZdV X (.builtin "isinstance") (rIsO X.K):=by
 intro pins s σ H xs us Q I r h
 obtain ⟨x,C,t,b,rfl,ty,e,q⟩:=h
 obtain ⟨u,w',rfl,r1,r2⟩:=vals2 r
 cases r2
 exact Zc7 I r1 ty e fun tk=>⟨.bl b,H,I.tok _,rfl,q⟩
end L2.Ds
namespace Dl
open PySem
def mkS(l:List Nat):Str:=⟨l.toArray⟩
def cpL(x:Str):List Nat:=x.cps.toList
def bStr:List D→Res D
 | [.int i]=>if i.natAbs.log2<1920 then .ok (.str (Str.ofString (toString i))) else .bad
 | _=>.bad
def digB(c:Nat):Bool:=decide (48≤c)&&decide (c≤57)
def digV(l:List Nat):Nat:=l.foldl (fun a c=>a*10+(c - 48)) 0
def figL(l:List Nat):Option Nat:=if l≠[]∧l.all digB=true then some (digV l) else none
def intL:List Nat→Option Int
 | []=>none
 | c::r=>if c=45 then (figL r).map (fun n:Nat=>-(n:Int)) else (figL (c::r)).map fun n:Nat=>(n:Int)
def ZkW:List D→Res D
 | [.str x]=>if x.length≤640 then ofO ((intL (cpL x)).map D.int) else .bad
 | _=>.bad
def Zlg:List D→Res D
 | [.lst xs]=>.ok (.int xs.length)
 | [.tup xs]=>.ok (.int xs.length)
 | [.str x]=>if x.length≤LIM then .ok (.int x.length) else .bad
 | _=>.bad
def sD(f:Str→D→Res D)(a b:ME):ME:=fun ρ=>(a ρ).bind fun x=>match x with
 | .str z=>(b ρ).bind (f z)
 | _=>.bad
def Zgr(x:Str):D→Res D
 | .str y=>.ok (.bl ((cpL x).take (cpL y).length==cpL y))
 | _=>.bad
def Zbe(c:Nat):List Nat→List (List Nat)
 | []=>[[]]
 | x::r=>if x=c then []::Zbe c r else match Zbe c r with
  | []=>[[x]]
  | w::ws=>(x::w)::ws
def ZfH(x:Str):D→Res D
 | .str y=>(match cpL y with
  | [c]=>if x.length≤LIM then .ok (.lst ((Zbe c (cpL x)).map fun l=>.str (mkS l))) else .bad
  | _=>.bad)
 | _=>.bad
def Zc2(c:Nat):List Nat→Option (List Nat×List Nat)
 | []=>none
 | x::r=>if x=c then some ([],r) else (Zc2 c r).map fun p=>(x::p.1,p.2)
def ZjM(x:Str):D→Res D
 | .str y=>(match cpL y with
  | [c]=>if x.length≤LIM then (match Zc2 c (cpL x) with
   | some (a,b)=>.ok (.tup [.str (mkS a),.str y,.str (mkS b)])
   | none=>.ok (.tup [.str x,.str Str.empty,.str Str.empty])) else .bad
  | _=>.bad)
 | _=>.bad
def txts:List D→Option (List Str)
 | []=>some []
 | .str x::r=>(txts r).map (x::·)
 | _::_=>none
def Zaz(sep:List Nat):List (List Nat)→List Nat
 | []=>[]
 | [x]=>x
 | x::y::r=>x++sep++Zaz sep (y::r)
def sumL(sep:Nat)(ts:List Str):Nat:=(ts.map (·.length)).sum+ts.length*sep
def Zhk(x:Str)(ds:List D):Res D:=match txts ds with
 | some ts=>if sumL x.length ts≤LIM then .ok (.str (mkS (Zaz (cpL x) (ts.map cpL)))) else .bad
 | none=>.bad
def ZgP(x:Str):D→Res D
 | .lst ds=>Zhk x ds
 | _=>.bad
def joinRev(x:Str)(j:Nat):ME:=fun ρ=>(getO ρ[j]?).bind fun ds=>Zhk x ds.reverse
def dInT:D→D→Res D
 | .str a,.str b=>(match cpL a with
  | [c]=>.ok (.bl ((cpL b).contains c))
  | _=>.bad)
 | _,_=>.bad
def ZiZ:D→D→Res D
 | .str a,.str b=>(match cpL a with
  | [c]=>.ok (.bl (!(cpL b).contains c))
  | _=>.bad)
 | _,_=>.bad
def cutS(x:Str)(lo hi:Option Int):Res D:=if x.length≤LIM then (match lo,hi with
 | some i,none=>if 0≤i then .ok (.str (mkS ((cpL x).drop i.toNat))) else .bad
 | none,some j=>if 0≤j then .ok (.str (mkS ((cpL x).take j.toNat))) else .bad
 | _,_=>.bad) else .bad
def Zq6(x:D)(lo hi:Option Int):Res D:=match x with
 | .str x=>cutS x lo hi
 | _=>.bad
def cutT(a:ME)(lo hi:Ev→Res (Option Int)):ME:=fun ρ=>(a ρ).bind fun x=>(lo ρ).bind fun l=>(hi ρ).bind fun h=>Zq6 x l h
def Zo1:D→Res (List D)
 | .str x=>if (cpL x).all (·<128)=true then .ok ((cpL x).map fun c=>.str (mkS [c])) else .bad
 | _=>.bad
def ivT(a:ME):MI:=fun ρ=>(a ρ).bind Zo1
def nOw:Ev→Bool
 | []=>true
 | .ow _::_=>false
 | _::r=>nOw r
def Zca(i j:Nat)(nt:MB)(ρ:Ev):List D→List (List D)→List D→Res (List (List D))
 | [],gs,g=>.ok (gs++[g])
 | d::r,gs,g=>(noEx (nt ((ρ.set i .no).set j (.im d)))).bind fun b=>if b=true then Zca i j nt ρ r (gs++[g]) [] else Zca i j nt ρ r gs (g++[d])
def grp(i j k:Nat)(nt:MB):MS:=fun ρ=>match ρ[k]? with
 | some (.im (.lst ds))=>if (nOw ρ&&decide (i<ρ.length)&&decide (j<ρ.length)&&decide (ds.length<1000))=true then (Zca i j nt ρ ds [] []).bind fun gs=>.ok (.rt (.lst (gs.map .lst))) else .bad
 | _=>.bad
theorem Zdp(x:Str):mkS (cpL x)=x:=by
 cases x;simp [mkS,cpL]
theorem ZaZ(l:List Nat):cpL (mkS l)=l:=by simp [mkS,cpL]
theorem Zco(x:Str):(cpL x).length=x.length:=by simp [cpL,Str.length]
theorem ZgK(x y:Str):cpL (x++y)=cpL x++cpL y:=by
 show (x.cps++y.cps).toList=_
 rw [Array.toList_append];rfl
theorem Zj6(x y:List Nat):mkS x++mkS y=mkS (x++y):=by
 rw [←Zdp (mkS x++mkS y),ZgK,ZaZ,ZaZ]
theorem Zct(l:List Nat):(mkS l).length=l.length:=by rw [←Zco,ZaZ]
theorem Zm2{a b:List Nat}(h:mkS a=mkS b):a=b:=by rw [←ZaZ a,h,ZaZ]
theorem Ze5{c:Nat}:∀{w:List Nat},c∉w→Zbe c w=[w]
 | [],_=>rfl
 | x::r,h=>by
  have h1:¬x=c:=fun e=>h (by rw [e];exact List.mem_cons_self)
  have h2:=Ze5 (c:=c) (w:=r) fun e=>h (List.mem_cons_of_mem _ e)
  unfold Zbe
  rw [if_neg h1,h2]
theorem Zf6{c:Nat}(rest:List Nat):∀{w:List Nat},c∉w→Zbe c (w++c::rest)=w::Zbe c rest
 | [],_=>by show Zbe c (c::rest)=_;rw [Zbe,if_pos rfl]
 | x::r,h=>by
  have h1:¬x=c:=fun e=>h (by rw [e];exact List.mem_cons_self)
  have h2:=Zf6 rest (c:=c) (w:=r) fun e=>h (List.mem_cons_of_mem _ e)
  show Zbe c (x::(r++c::rest))=_
  rw [Zbe,if_neg h1,h2]
theorem Zbl{c:Nat}:∀{ws:List (List Nat)},ws≠[]→(∀w∈ws,c∉w)→Zbe c (Zaz [c] ws)=ws
 | [],h,_=>absurd rfl h
 | [w],_,h=>Ze5 (h w List.mem_cons_self)
 | w::v::r,_,h=>by
  have ih:=Zbl (c:=c) (ws:=v::r) (by simp) fun u hu=>h u (List.mem_cons_of_mem _ hu)
  show Zbe c (w++[c]++Zaz [c] (v::r))=_
  rw [List.append_assoc]
  show Zbe c (w++c::Zaz [c] (v::r))=_
  rw [Zf6 _ (h w List.mem_cons_self),ih]
end Dl
namespace L2.Ds
open PySem PySem.Spec PyProof.Rows Dl
theorem Zgi{y:Str}{c:Nat}(h:cpL y=[c]):y=⟨#[c]⟩:=by
 rw [←Zdp y,h];rfl
theorem Zdz{n:Nat}(h:n≤LIM):n≤sizeLine:=Nat.le_trans h (by decide)
section
variable{K:W.Frag}{mg:Str→Option Value}
theorem Zc4:CallD K mg (fun xs H Q=>∃i,xs=[.int i]∧i.natAbs.log2<1920∧Q (.str (toString i)) H) bStr:=by
 intro E F H xs ds s r
 unfold bStr
 split
 ·obtain ⟨x,rfl,rx⟩:=r.one
  cases rx
  split
  ·next h=>exact .ret s (.str _) fun Q q=>⟨_,rfl,h,q⟩
  ·trivial
 ·trivial
theorem ZhG{l:List Nat}{n:Nat}(h:figL l=some n):PySem.NumText.AllDigits l∧l≠[]∧PySem.NumText.digitsVal l=n:=by
 unfold figL at h
 split at h
 ·next e =>
  cases h
  refine ⟨fun c hc=>?_,e.1,rfl⟩
  have:=List.all_eq_true.mp e.2 c hc
  unfold digB at this
  simpa using this
 ·cases h
theorem Zkm{x:Str}{n:Int}(h:intL (cpL x)=some n)(hl:x.length≤640):PySem.intText? x=some n:=by
 cases e:cpL x with
 | nil=>rw [e] at h;cases h
 | cons c r =>
  rw [e] at h
  replace h:(if c=45 then (figL r).map (fun n:Nat=>-(n:Int)) else (figL (c::r)).map fun n:Nat=>(n:Int))=some n:=h
  split at h
  ·next hc =>
   subst hc
   cases ef:figL r with
   | none=>rw [ef] at h;cases h
   | some m =>
    rw [ef] at h
    cases h
    obtain ⟨h1,h2,h3⟩:=ZhG ef
    rw [PySem.intText_neg e h1 h2 (by omega),h3]
  ·cases ef:figL (c::r) with
   | none=>rw [ef] at h;cases h
   | some m =>
    rw [ef] at h
    cases h
    obtain ⟨h1,h2,h3⟩:=ZhG ef
    rw [←e] at h1 h2 h3
    have:=PySem.intText_digits (x:=x) h1 h2 (by omega)
    rw [this]
    exact congrArg (fun k:Nat=>some (k:Int)) h3
def Zpv:List V→Hp→VK→Prop:=fun xs H Q=>∃x n,xs=[.str x]∧PySem.intText? x=some n∧x.length≤640∧Q (.int n) H
theorem ZkJ{X:Cx}:ZdV X (.type "int") Zpv:=by
 intro pins s σ H xs us Q I r h
 obtain ⟨x,n,rfl,hn,hl,q⟩:=h
 obtain ⟨u,rfl,t,rfl⟩:=vals1 r
 exact W.KIN.call_text hn hl ⟨.int _,H,I.tok _,⟨_,rfl⟩,q⟩
theorem Zi3:CallD K mg Zpv ZkW:=by
 intro E F H xs ds s r
 unfold ZkW
 split
 ·obtain ⟨x,rfl,rx⟩:=r.one
  cases rx
  split
  ·next z h =>
   cases e:intL (cpL z) with
   | none=>trivial
   | some n=>exact .ret s (.int _) fun Q q=>⟨_,n,rfl,Zkm e h,h,q⟩
  ·trivial
 ·trivial
theorem Zi8:CallD K mg (fun xs H Q=>∃x n,xs=[x]∧LenV K x H n∧Q (.int n) H) Zlg:=by
 intro E F H xs ds s r
 unfold Zlg
 split
 ·obtain ⟨x,rfl,rx⟩:=r.one
  cases rx with
  | lst h q=>exact .ret s (.int _) fun Q z=>⟨_,_,rfl,.inl ⟨_,s.seq h,q.length.symm⟩,z⟩
 ·obtain ⟨x,rfl,rx⟩:=r.one
  cases rx with
  | tup h q=>exact .ret s (.int _) fun Q z=>⟨_,_,rfl,.inr ⟨_,ZaO s h,q.length.symm⟩,z⟩
 ·obtain ⟨x,rfl,rx⟩:=r.one
  cases rx
  split
  ·next h=>exact .ret s (.int _) fun Q z=>⟨_,_,rfl,⟨Zdz h,rfl⟩,z⟩
  ·trivial
 ·trivial
def SmD(K:W.Frag)(mg:Str→Option Value)(r:V→List V→Hp→VK→Prop)(f:Str→D→Res D):Prop:=∀(E:XK) F H z y dy,Same F H→Rp K mg F y dy→Ans mg E (Rp K mg) F H (f z dy) (r (.str z) [y] H)
theorem Zqw{E:XK}{r:V→List V→Hp→VK→Prop}{f:Str→D→Res D}{to ta:TE}{mo ma:ME}(hf:SmD K mg r f)(ho:SE K mg E to mo)(ha:SE K mg E ta ma):SE K mg E (tBM K "str" r to (ZdA ta tNil)) (sD f mo ma):=by
 intro F0 H0 F H σ ρ rr
 refine (ho F0 H0 F H σ ρ rr).bind fun F1 H1 x dx g1 rx=>?_
 cases dx with
 | str z =>
  cases rx
  refine Ans.imp (w:=fun Q=>ta σ H1 fun y H2=>r (.str z) [y] H2 Q) ?_ fun Q q=>⟨rfl,q⟩
  exact (ha F0 H0 F1 H1 σ ρ (rr.gr g1)).bind fun F2 H2 y dy g2 ry=>hf E F2 H2 z y dy g2.s ry
 | _=>trivial
def Zjx:V→List V→Hp→VK→Prop:=fun x xs H Q=>∃z y,x=.str z∧xs=[.str y]∧Q (.bl (decide (0+y.length≤z.length)&&Builtin.Str.subAt z y 0)) H
theorem Zg4{X:Cx}:MtR X "str.startswith" Zjx:=by
 intro pins s σ H x xs v us Q I rx rs h
 obtain ⟨z,y,rfl,rfl,q⟩:=h
 obtain ⟨u,rfl,t,rfl⟩:=vals1 rs
 obtain ⟨t',rfl⟩:=rx
 exact call_gives PySem.F.slot_str_startswith (typeIs_str s z t') PySem.F.entry_str_startswith (PySem.F.args_str_startswith_2 _ _) (gives_str_startswith z y t' t) ⟨.bl _,H,I,rfl,q⟩
theorem Zkw(z y:Str):(decide (0+y.length≤z.length)&&Builtin.Str.subAt z y 0)=((cpL z).take (cpL y).length==cpL y):=by
 rw [StrLaws.subAt_eq,List.drop_zero,Zco]
 show (decide (0+y.length≤z.length)&&((cpL z).take y.length==cpL y))=_
 cases h:((cpL z).take y.length==cpL y) with
 | false=>rw [Bool.and_false]
 | true =>
  have e:=congrArg List.length (eq_of_beq h)
  rw [List.length_take,Zco,Zco] at e
  simp only [Bool.and_true,decide_eq_true_eq]
  omega
theorem Zgb:SmD K mg Zjx Zgr:=by
 intro E F H z y dy s ry
 cases dy with
 | str w =>
  cases ry
  exact .ret s (.bl _) fun Q q=>⟨z,w,rfl,rfl,by rw [Zkw];exact q⟩
 | _=>trivial
def Zl7:V→List V→Hp→VK→Prop:=fun x xs H Q=>∃z c,x=.str z∧xs=[.str ⟨#[c]⟩]∧z.length≤LIM∧∀l,H l=none→Q (.ref l) (upd H l (.lst ((Txt.split z ⟨#[c]⟩).map V.str)))
theorem Zhr:∀l:List (Str×Tok),Vals ((l.map (·.1)).map V.str) (strValues l)
 | []=>.nil
 | (x,t)::r=>.cons ⟨t,rfl⟩ (Zhr r)
theorem split_len(x:Str)(c:Nat):(Txt.split x ⟨#[c]⟩).length≤x.length+1:=by
 have h:=congrArg Str.length (StrLaws.join_split x ⟨#[c]⟩)
 have key:∀ts:List Str,ts.length≤(Str.join ⟨#[c]⟩ ts).length+1:=by
  intro ts
  induction ts with
  | nil=>exact Nat.zero_le _
  | cons a r ih =>
   cases r with
   | nil=>exact Nat.le_add_left _ _
   | cons b r =>
    show (b::r).length+1≤(a++⟨#[c]⟩++Str.join ⟨#[c]⟩ (b::r)).length+1
    have e:(a++(⟨#[c]⟩ : Str)++Str.join ⟨#[c]⟩ (b::r)).length=a.length+1+(Str.join ⟨#[c]⟩ (b::r)).length:=by
     show (a.cps++#[c]++(Str.join ⟨#[c]⟩ (b::r)).cps).size=_
     rw [Array.size_append,Array.size_append];rfl
    omega
 have:=key (Txt.split x ⟨#[c]⟩)
 rw [h] at this
 exact this
theorem ZgQ(x:Str):∀ts:List Str,cpL (Str.join x ts)=Zaz (cpL x) (ts.map cpL)
 | []=>rfl
 | [a]=>rfl
 | a::b::r=>by
  show cpL (a++x++Str.join x (b::r))=cpL a++cpL x++Zaz (cpL x) ((b::r).map cpL)
  rw [ZgK,ZgK,ZgQ x (b::r)]
theorem Zk8(z:Str)(c:Nat):Txt.split z ⟨#[c]⟩≠[]:=by
 unfold Txt.split
 split
 ·simp
 ·split
  ·simp
  ·rw [StrLaws.partsBetween_eq]
   obtain ⟨p,q,e⟩:=StrLaws.partsFrom_ne z (⟨#[c]⟩ : Str).length 0 (Builtin.Str.occurrences z ⟨#[c]⟩ 0 z.length (z.length+1))
   rw [e];simp
theorem Zl3(z:Str)(c:Nat):(Txt.split z ⟨#[c]⟩).map cpL=Zbe c (cpL z):=by
 have h:=congrArg cpL (StrLaws.join_split z ⟨#[c]⟩)
 rw [ZgQ] at h
 rw [←h]
 refine (Zbl (by simpa using Zk8 z c) fun w hw=>?_).symm
 obtain ⟨p,hp,rfl⟩:=List.mem_map.mp hw
 exact StrLaws.split_free z c p hp
theorem Zgu{X:Cx}:MtR X "str.split" Zl7:=by
 intro pins s σ H x xs v us Q I rx rs h
 obtain ⟨z,c,rfl,rfl,hz,q⟩:=h
 obtain ⟨u,rfl,t,rfl⟩:=vals1 rs
 obtain ⟨t',rfl⟩:=rx
 have hn:(Txt.split z ⟨#[c]⟩).length≤sizeLine:=Nat.le_trans (split_len z c) (Nat.le_trans (Nat.succ_le_succ hz) (by decide))
 have fin:∀(l:List (Str×Tok)) (k:Nat),l.map (·.1)=Txt.split z ⟨#[c]⟩→EP X pins σ Q (.ref s.heap.objs.size) { s with toks:=k,heap:=s.heap.push { cls:=.type "list", data:=.seq (strValues l).toArray } }:=fun l k e =>
  ⟨.ref _,_,I.laid (t':=k) (o:=.lst ((Txt.split z ⟨#[c]⟩).map V.str)) (fun b o e=>Heap.get?_push_of_some _ e) (Nat.le_refl _) ⟨by rw [List.length_map];exact hn,strValues l,0,by rw [←e];exact Zhr l,Heap.get?_push_size _ rfl⟩,rfl,q _ (I.hok.fresh (Nat.le_refl _))⟩
 cases h1:(decide (z.length<(⟨#[c]⟩ : Str).length)||decide (Builtin.Str.strKind z<Builtin.Str.strKind ⟨#[c]⟩))
 ·cases hf:(Builtin.Str.occurrences z ⟨#[c]⟩ 0 z.length (z.length+1)).isEmpty
  ·have e:Txt.split z ⟨#[c]⟩=Builtin.Str.partsBetween z (Builtin.Str.occurrences z ⟨#[c]⟩ 0 z.length (z.length+1)) (⟨#[c]⟩ : Str).length:=(if_neg (ne_true_of_eq_false h1)).trans (if_neg (ne_true_of_eq_false hf))
   refine call_meets PySem.F.slot_str_split (typeIs_str s z t') PySem.F.entry_str_split (PySem.F.args_str_split_2 _ _) (meets_str_split_sep z ⟨#[c]⟩ t' t h1 rfl hf (Zdz hz) (by rw [←e];exact hn)) ?_
   show EP X pins σ Q (.ref s.heap.objs.size) _
   rw [strsFrom_eq]
   exact fin (numbered s.toks _) _ ((numbered_texts _ _).trans e.symm)
  ·exact call_meets PySem.F.slot_str_split (typeIs_str s z t') PySem.F.entry_str_split (PySem.F.args_str_split_2 _ _) (meets_str_split_not_found z ⟨#[c]⟩ t' t h1 rfl hf) (fin [(z,t')] _ ((if_neg (ne_true_of_eq_false h1)).trans (if_pos hf)).symm)
 ·exact call_meets PySem.F.slot_str_split (typeIs_str s z t') PySem.F.entry_str_split (PySem.F.args_str_split_2 _ _) (meets_str_split_cannot_occur z ⟨#[c]⟩ t' t h1) (fin [(z,t')] _ (if_pos h1).symm)
theorem ZiD{F:Hp}:∀ts:List Str,Rps K mg F (ts.map V.str) ((ts.map cpL).map fun l=>D.str (mkS l))
 | []=>.nil
 | t::r=>.cons (by show Rp K mg F (V.str t) (D.str (mkS (cpL t)));rw [Zdp];exact .str t) (ZiD r)
theorem Ze6:SmD K mg Zl7 ZfH:=by
 intro E F H z y dy s ry
 cases dy with
 | str w =>
  cases ry
  unfold ZfH
  dsimp only
  split
  ·next c e =>
   split
   ·next hz =>
    have ew:=Zgi e
    subst ew
    refine Zdb s (o:=.lst ((Txt.split z ⟨#[c]⟩).map V.str)) (fun p hp=>?_) fun Q q=>⟨z,c,rfl,rfl,hz,q⟩
    rw [←Zl3]
    exact .lst (SqL.of Zal) (ZiD _)
   ·trivial
  ·trivial
 | _=>trivial
def rJoin(K:W.Frag):V→List V→Hp→VK→Prop:=fun x xs H Q=>∃z l ts,x=.str z∧xs=[.ref l]∧SqL K H l (ts.map V.str)∧sumL z.length ts≤LIM∧Q (.str (Str.join z ts)) H
theorem Ze9:∀{ts:List Str} {us:List Value},Vals (ts.map V.str) us→∃l:List (Str×Tok),strValues l=us∧l.map (·.1)=ts
 | [],_,h=>by cases h;exact ⟨[],rfl,rfl⟩
 | t::r,_,h=>by
  cases h with
  | cons h1 h2 =>
   obtain ⟨k,rfl⟩:=h1
   obtain ⟨l,rfl,e⟩:=Ze9 h2
   exact ⟨(t,k)::l,rfl,by rw [←e];rfl⟩
theorem ZhC{z:Str}{ts:List Str}(h:sumL z.length ts≤LIM):Builtin.Str.tooLong (ts.toArray.foldl (·+·.length+z.length) 0)=false:=by
 rw [StrLaws.joinTotal]
 exact decide_eq_false (Nat.not_lt.mpr (Zdz h))
theorem ZdK{X:Cx}:MtR X "str.join" (rJoin X.K):=by
 intro pins s σ H x xs v us Q I rx rs h
 obtain ⟨z,a,ts,rfl,rfl,hl,hz,q⟩:=h
 obtain ⟨u,rfl,ru⟩:=vals1 rs
 cases ru
 obtain ⟨t,rfl⟩:=rx
 obtain ⟨its,r,pl,_⟩:=I.list hl
 obtain ⟨l,rfl,el⟩:=Ze9 r
 have hf:=ZhC hz
 rw [←el] at hf
 refine call_meets PySem.F.slot_str_join (typeIs_str s z t) PySem.F.entry_str_join (PySem.F.args_str_join_2 _ _) (meets_str_join_list z t a l hf) ⟨pl.isList,?_⟩
 refine post_join l ⟨joinFit_length hf,fun t' k=>?_⟩
 refine ⟨.str _,H,I.tok _,⟨t',rfl⟩,?_⟩
 unfold Txt.join
 rw [StrLaws.glued_eq_join,el]
 exact q
theorem ZiP{F:Hp}:∀{xs:List V} {ds:List D} {ts:List Str},Rps K mg F xs ds→txts ds=some ts→xs=ts.map V.str
 | _,[],_,r,e=>by cases r;cases e;rfl
 | _,d::ds,ts,r,e=>by
  cases r with
  | cons h r =>
   cases d with
   | str x =>
    have e':(txts ds).map (x::·)=some ts:=e
    cases q:txts ds with
    | none=>rw [q] at e';cases e'
    | some us =>
     rw [q] at e'
     cases e'
     cases h
     rw [ZiP r q];rfl
   | _=>cases e
theorem Zhv{E:XK}{F H:Hp}{xs:List V}{ds:List D}{z:Str}{w:VK→Prop}(s:Same F H)(r:Rps K mg F xs ds)(h:∀ts,xs=ts.map V.str→sumL z.length ts≤LIM→∀Q:VK,Q (.str (Str.join z ts)) H→w Q):Ans mg E (Rp K mg) F H (Zhk z ds) w:=by
 unfold Zhk
 split
 ·next ts e =>
  split
  ·next hl =>
   have er:=ZiP r e
   refine .ret s (b:=.str (Str.join z ts)) ?_ fun Q q=>h ts er hl Q q
   rw [←ZgQ,Zdp]
   exact .str _
  ·trivial
 ·trivial
theorem ZcW:SmD K mg (rJoin K) ZgP:=by
 intro E F H z y dy s ry
 cases dy with
 | lst ds =>
  cases ry with
  | lst h r =>
   exact Zhv s r fun ts er hl Q q=>⟨z,_,ts,rfl,rfl,by rw [←er];exact s.seq h,hl,q⟩
 | _=>trivial
def Zpw:V→List V→Hp→VK→Prop:=fun x xs H Q=>∃z c,x=.str z∧xs=[.str ⟨#[c]⟩]∧z.length≤LIM∧∀l,H l=none→Q (.ref l) (upd H l (.tup (match Zc2 c (cpL z) with
 | some (a,b)=>[.str (mkS a),.str ⟨#[c]⟩,.str (mkS b)]
 | none=>[.str z,.str Str.empty,.str Str.empty])))
theorem Zf1{c:Nat}:∀{l:List Nat},Zc2 c l=none→c∉l
 | [],_=>by simp
 | x::r,h=>by
  unfold Zc2 at h
  split at h
  ·cases h
  ·next hx =>
   cases e:Zc2 c r with
   | none =>
    have:=Zf1 e
    intro hm
    rcases List.mem_cons.mp hm with z | z
    ·exact hx z.symm
    ·exact this z
   | some p=>rw [e] at h;cases h
theorem ZeJ{c:Nat}:∀{l a b:List Nat},Zc2 c l=some (a,b)→c∉a∧l=a++c::b
 | [],_,_,h=>by cases h
 | x::r,a,b,h=>by
  unfold Zc2 at h
  split at h
  ·next hx=>cases h;exact ⟨by simp,by rw [hx];rfl⟩
  ·next hx =>
   cases e:Zc2 c r with
   | none=>rw [e] at h;cases h
   | some p =>
    rw [e] at h
    cases h
    obtain ⟨h1,h2⟩:=ZeJ (a:=p.1) (b:=p.2) e
    refine ⟨fun hm=>?_,by rw [h2];rfl⟩
    rcases List.mem_cons.mp hm with z | z
    ·exact hx z.symm
    ·exact h1 z
theorem Zjz(x:Str)(c i:Nat):StrLaws.At x ⟨#[c]⟩ x.length i↔(cpL x)[i]?=some c:=StrLaws.subAt_one x c i
theorem Zmj(x:Str)(i j:Nat):Builtin.Str.strSub x i j=mkS (((cpL x).drop i).take (j - i)):=by
 rw [←Zdp (Builtin.Str.strSub x i j)]
 exact congrArg mkS (StrLaws.strSub_toList x i j)
theorem ZnR{X:Cx}:MtR X "str.partition" Zpw:=by
 intro pins s σ H x xs v us Q I rx rs h
 obtain ⟨z,c,rfl,rfl,hz,q⟩:=h
 obtain ⟨u,rfl,t,rfl⟩:=vals1 rs
 obtain ⟨t',rfl⟩:=rx
 refine call_meets PySem.F.slot_str_partition (typeIs_str s z t') PySem.F.entry_str_partition (PySem.F.args_str_partition_2 _ _) (meets_str_partition z ⟨#[c]⟩ t' t rfl (Zdz hz)) ?_
 have fin:∀(k:Nat) (vs:List V) (its:List Value),Vals vs its→vs.length≤3→(∀l,H l=none→Q (.ref l) (upd H l (.tup vs)))→EP X pins σ Q (.ref s.heap.objs.size) { s with toks:=k,heap:=s.heap.push { cls:=.type "tuple", data:=.seq its.toArray } }:=fun k vs its r hl q =>
  ⟨.ref _,_,I.laid (t':=k) (o:=.tup vs) (fun b o e=>Heap.get?_push_of_some _ e) (Nat.le_refl _) ⟨Nat.le_trans hl (by decide),its,r,IsTup.new _ _⟩,rfl,q _ (I.hok.fresh (Nat.le_refl _))⟩
 rcases StrLaws.occ_head z ⟨#[c]⟩ 1 (Nat.le_refl 1) with ⟨e,hn⟩ | ⟨i,r,e,ha,hn⟩
 ·rw [e]
  have en:Zc2 c (cpL z)=none:=by
   cases ep:Zc2 c (cpL z) with
   | none=>rfl
   | some p =>
    obtain ⟨_,h2⟩:=ZeJ (a:=p.1) (b:=p.2) ep
    refine absurd ((Zjz z c p.1.length).mpr ?_) (hn _)
    rw [h2];simp
  rw [en] at q
  exact fin _ [.str z,.str Str.empty,.str Str.empty] [.str z t',.str Str.empty s.toks,.str Str.empty s.toks] (.cons ⟨_,rfl⟩ (.cons ⟨_,rfl⟩ (.cons ⟨_,rfl⟩ .nil))) (by simp) q
 ·rw [e]
  have hi:=(Zjz z c i).mp ha
  cases ep:Zc2 c (cpL z) with
  | none=>exact absurd (List.mem_of_getElem? hi) (Zf1 ep)
  | some p =>
   rw [ep] at q
   obtain ⟨a,b⟩:=p
   obtain ⟨h1,h2⟩:=ZeJ ep
   have ei:i=a.length:=by
    rcases Nat.lt_trichotomy i a.length with l | l | l
    ·rw [h2,List.getElem?_append_left l] at hi
     exact absurd (List.mem_of_getElem? hi) h1
    ·exact l
    ·refine absurd ((Zjz z c a.length).mpr ?_) (hn _ l)
     rw [h2];simp
   subst ei
   have e1:Builtin.Str.strSub z 0 a.length=mkS a:=by
    rw [Zmj,h2,List.drop_zero,Nat.sub_zero,List.take_left' rfl]
   have e2:Builtin.Str.strSub z (a.length+1) z.length=mkS b:=by
    rw [Zmj,←Zco z,h2]
    have:(a++c::b).drop (a.length+1)=b:=by
     rw [show a++c::b=(a++[c])++b by simp]
     exact List.drop_left' (by simp)
    rw [this]
    refine congrArg mkS (List.take_of_length_le ?_)
    simp
    omega
   show EP X pins σ Q (.ref s.heap.objs.size) { s with toks:=_,heap:=s.heap.push { cls:=.type "tuple", data:=.seq [.str (Builtin.Str.strSub z 0 a.length) s.toks,.str ⟨#[c]⟩ t,.str (Builtin.Str.strSub z (a.length+1) z.length) (s.toks+1)].toArray } }
   rw [e1,e2]
   exact fin _ [.str (mkS a),.str ⟨#[c]⟩,.str (mkS b)] [_,_,_] (.cons ⟨_,rfl⟩ (.cons ⟨_,rfl⟩ (.cons ⟨_,rfl⟩ .nil))) (by simp) q
theorem Zl4:SmD K mg Zpw ZjM:=by
 intro E F H z y dy s ry
 cases dy with
 | str w =>
  cases ry
  unfold ZjM
  dsimp only
  split
  ·next c e =>
   split
   ·next hz =>
    have ew:=Zgi e
    subst ew
    cases ep:Zc2 c (cpL z) with
    | none =>
     exact Zdb s (o:=.tup [.str z,.str Str.empty,.str Str.empty]) (fun p hp=>.tup (.inl (.inl Zal)) (.cons (.str _) (.cons (.str _) (.cons (.str _) .nil)))) fun Q q=>⟨z,c,rfl,rfl,hz,by rw [ep];exact q⟩
    | some p =>
     obtain ⟨a,b⟩:=p
     exact Zdb s (o:=.tup [.str (mkS a),.str ⟨#[c]⟩,.str (mkS b)]) (fun p hp=>.tup (.inl (.inl Zal)) (.cons (.str _) (.cons (.str _) (.cons (.str _) .nil)))) fun Q q=>⟨z,c,rfl,rfl,hz,by rw [ep];exact q⟩
   ·trivial
  ·trivial
 | _=>trivial
theorem ZmY:OpD K mg (fun x y H Q=>∃i j,x=.str i∧y=.str j∧Q (.bl (!(Builtin.Str.occurrences j i 0 j.length 1).isEmpty)) H) dInT:=by
 intro E F H x y dx dy s rx ry
 unfold dInT
 split
 ·next a b =>
  cases rx;cases ry
  split
  ·next c e =>
   refine .ret s (.bl _) fun Q q=>⟨_,_,rfl,rfl,?_⟩
   rw [Zgi e,StrLaws.found_one]
   rw [List.contains_eq_mem] at q
   exact q
  ·trivial
 ·trivial
theorem Zlc:OpD K mg (fun x y H Q=>∃i j,x=.str i∧y=.str j∧Q (.bl (!(!(Builtin.Str.occurrences j i 0 j.length 1).isEmpty))) H) ZiZ:=by
 intro E F H x y dx dy s rx ry
 unfold ZiZ
 split
 ·next a b =>
  cases rx;cases ry
  split
  ·next c e =>
   refine .ret s (.bl _) fun Q q=>⟨_,_,rfl,rfl,?_⟩
   rw [Zgi e,StrLaws.found_one]
   rw [List.contains_eq_mem] at q
   exact q
  ·trivial
 ·trivial
def rSlT:V→Option Int→Option Int→Hp→VK→Prop:=fun x lo hi H Q=>∃z,x=.str z∧z.length≤sizeLine∧Q (.str (Txt.slice z lo hi)) H
theorem ZpQ{X:Cx}:SlR X rSlT:=by
 intro pins s σ H x v vl vu lo hi sl Q I rx hs pl pu h
 obtain ⟨z,rfl,hz,q⟩:=h
 obtain ⟨t,rfl⟩:=rx
 refine ⟨"str", _,PySem.F.slot_str_getitem.lookup,typeIs_str _ _ _,?_⟩
 have key:∀(l u:Option (Int×Tok)),vl=partValue l→vu=partValue u→lo=l.map (·.1)→hi=u.map (·.1)→wpAny (model X.prog X.w) X.A (getItem (.str z t) (.ref sl)) (EP X pins σ Q) X.xe s:=by
  intro l u e1 e2 e3 e4
  subst e1 e2 e3 e4
  exact wpAny_getItem_str_slice (l:=l) (u:=u) (st:=none) hs rfl
   (post_val_or_str ⟨Nat.le_trans (Txt.slice_le z _ _) hz,fun t' k=>⟨.str _,H,I.tok _,⟨t',rfl⟩,q⟩⟩)
 cases pl with
 | none =>
  cases pu with
  | none=>exact key none none rfl rfl rfl rfl
  | int j tj=>exact key none (some (j,tj)) rfl rfl rfl rfl
 | int i ti =>
  cases pu with
  | none=>exact key (some (i,ti)) none rfl rfl rfl rfl
  | int j tj=>exact key (some (i,ti)) (some (j,tj)) rfl rfl rfl rfl
theorem Zjh{z:Str}{i:Int}(h0:0≤i):Txt.slice z (some i) none=mkS ((cpL z).drop i.toNat):=by
 by_cases h:(z.length:Int)≤i
 ·rw [slice_beyond h]
  have:(cpL z).drop i.toNat=[]:=List.drop_eq_nil_of_le (by rw [Zco];omega)
  rw [this];rfl
 ·rw [slice_from_eq (b:=(z.length:Int)) h0 (by omega) rfl]
  refine congrArg mkS (List.take_of_length_le ?_)
  show ((cpL z).drop i.toNat).length≤_
  rw [List.length_drop,Zco];omega
theorem Zld{z:Str}{j:Int}(h0:0≤j):Txt.slice z none (some j)=mkS ((cpL z).take j.toNat):=by
 have key:∀j:Int,0≤j→j≤z.length→Txt.slice z none (some j)=mkS ((cpL z).take j.toNat):=fun j h0 h1=>by
  have h2:j≤z.cps.toList.length:=by rw [show z.cps.toList.length=z.length from Zco z];exact h1
  have:=beq_iff_eq.mp (slice_closes_to (x:=z) ⟨h0,h2⟩)
  rw [this,show (0:Int).toNat=0 from rfl,List.drop_zero,Int.sub_zero];rfl
 by_cases h:j≤z.length
 ·exact key j h0 h
 ·have e2:Txt.slice z none (some j)=Txt.slice z none (some (z.length:Int)):=by
   unfold Txt.slice
   have e:Builtin.Str.strSliceIndices none (some j) 1 z.length=Builtin.Str.strSliceIndices none (some (z.length:Int)) 1 z.length:=by
    have h1:¬j<0:=by omega
    have h2:¬((z.length:Int)<0):=by omega
    have h3:(1:Int)>0:=by decide
    simp only [Builtin.Str.strSliceIndices,h1,h2,h3,if_false,if_true,Int.min_eq_right (show (z.length:Int)≤j by omega),Int.min_self]
   rw [e]
  rw [e2,key _ (by omega) (Int.le_refl _),List.take_of_length_le (by rw [Zco];omega),List.take_of_length_le (by rw [Zco];omega)]
theorem ZmN{E:XK}{ta:TE}{ma:ME}{tl th:TO}{ml mh:Ev→Res (Option Int)}(ha:SE K mg E ta ma)(hl:SO K mg E tl ml)(hh:SO K mg E th mh):SE K mg E (tSl rSlT ta tl th) (cutT ma ml mh):=by
 intro F0 H0 F H σ ρ rr
 refine (ha F0 H0 F H σ ρ rr).bind fun F1 H1 x dx g1 rx=>?_
 refine (hl F0 H0 F1 H1 σ ρ (rr.gr g1)).bind fun F2 H2 l dl g2 rl=>?_
 refine (hh F0 H0 F2 H2 σ ρ ((rr.gr g1).gr g2)).bind fun F3 H3 u du g3 ru=>?_
 cases rl;cases ru
 cases dx with
 | str z =>
  cases rx
  show Ans mg E (Rp K mg) F3 H3 (cutS z l u) _
  unfold cutS
  split
  ·next hz =>
   split
   ·split
    ·next h=>exact .ret g3.s (.str _) fun Q q=>⟨z,rfl,Zdz hz,by rw [Zjh h];exact q⟩
    ·trivial
   ·split
    ·next h=>exact .ret g3.s (.str _) fun Q q=>⟨z,rfl,Zdz hz,by rw [Zld h];exact q⟩
    ·trivial
   ·trivial
  ·trivial
 | _=>trivial
def ItS(x:Str):It:=⟨fun i _=>∃c,(cpL x)[i]?=some c,fun i H y H'=>H'=H∧∀c,(cpL x)[i]?=some c→y=.str (mkS [c]),fun i _=>(cpL x)[i]?=none⟩
theorem ZlU{P:Program}{w:World}{K:W.Frag}{tg:Expr}(x:Str)(t:Tok)(it:Addr):Turn P w K tg (ItS x) [it] it (fun i h=>h.IsStrIter it "str_ascii_iterator" x t i) where
 mem:=by simp
 obj:=fun i h st b hb=>by
  have e:b=it:=by simpa using hb
  subst e
  obtain ⟨o,e,c,d⟩:=st
  exact ⟨o,e,fun v z=>by rw [d] at z;cases z⟩
 keep:=fun i h h' st k=>by
  obtain ⟨o,e,r⟩:=st
  exact ⟨o,k it (by simp) o e,r⟩
 item:=by
  intro X hP hw hK hc i pins s σ H E I hf st hg
  subst hP hw hK
  obtain ⟨c,hx⟩:=hg
  obtain ⟨f0,f1,f2,f3,f4,f5⟩:=hf it (by simp)
  refine wpAny_pyNext_ascii_item st (c:=c) (by simpa [cpL] using hx) fun h' st' sb=>?_
  have I1:Inv X pins σ H { s with heap:=h',toks:=s.toks+1 }:=I.turned (t':=s.toks+1) (fun b o hb e=>(sb.2 b hb).trans e) f0 f1 f3 f4 f5
  obtain ⟨o,e,c',d⟩:=id st'
  exact ⟨_,rfl,Zlo (s:={ s with heap:=h',toks:=s.toks+1 }) e c' d (by decide) ⟨.str (mkS [c]),H,I1,⟨_,rfl⟩,⟨rfl,fun c2 h2=>by rw [hx] at h2;cases h2;rfl⟩,st',fun b hb=>(hf b hb).1⟩⟩
 done:=by
  intro X hP hw hK hc i pins s σ H E I hf st hg
  subst hP hw hK
  obtain ⟨f0,f1,f2,f3,f4,f5⟩:=hf it (by simp)
  exact wpAny_pyNext_ascii_end (I.ok.hd hc) st (by
   have h:(cpL x)[i]?=none:=hg
   simpa [cpL] using h) fun h' eb=>⟨rfl,I.turned (t':=s.toks) (fun b o hb e=>eb b o hb e) f0 f1 f3 f4 f5⟩
 self:=fun _ _ _ _ _ st h=>wpAny_pyIter_striter_ascii st h
def Zp1(tl:TE):TI:=fun σ H R=>tl σ H fun x H1=>∃z,x=.str z∧(cpL z).all (·<128)=true∧R (ItS z) H1
theorem ZnD{F:Hp}(z:Str):ItOk K mg F (ItS z) ((cpL z).map fun c=>.str (mkS [c])):=by
 intro F' H' s1 s2 i
 refine ⟨fun d e=>?_,fun hl=>?_⟩
 ·rw [List.getElem?_map] at e
  cases q:(cpL z)[i]? with
  | none=>rw [q] at e;cases e
  | some c =>
   rw [q] at e
   cases e
   refine ⟨⟨c,q⟩,fun y H'' h=>?_⟩
   obtain ⟨rfl,h⟩:=h
   rw [h c q]
   exact ⟨F',.refl s2,.str _⟩
 ·rw [List.length_map] at hl
  exact List.getElem?_eq_none hl
theorem Zpj{E:XK}{ta:TE}{ma:ME}(ha:SE K mg E ta ma):SI K mg E (Zp1 ta) (ivT ma):=by
 intro F0 H0 F H σ ρ rr
 refine (ha F0 H0 F H σ ρ rr).bind fun F1 H1 x dx g1 rx=>?_
 cases dx with
 | str z =>
  cases rx
  show Ans mg E (ItOk K mg) F1 H1 (if (cpL z).all (·<128)=true then .ok ((cpL z).map fun c=>.str (mkS [c])) else .bad) _
  split
  ·next h=>exact Ans.ret (R:=ItOk K mg) g1.s (ZnD z) fun Q q=>⟨z,rfl,h,q⟩
  ·trivial
 | _=>trivial
end
section
variable{X:Cx}{E:XK}{a b o tg:Expr}{ta tb to:TE}{ma mb mo:ME}{pos apos cpos:Pos}
theorem ZpL(h:DE X E a ta ma):DI X E tg a (Zp1 ta) (ivT ma):=by
 refine ⟨?_,Zpj h.s⟩
 intro pins s σ H R I hw
 refine thn (h.p pins s σ H _ I hw) fun v s1 ⟨x,H1,I1,r1,q1⟩=>?_
 obtain ⟨z,rfl,hz,q⟩:=q1
 obtain ⟨t,rfl⟩:=r1
 refine wpAny_pyIter_ascii (by rw [←hz];simp [cpL]) ?_
 refine ⟨s1.heap.objs.size,[s1.heap.objs.size],_,_,H1,rfl,I1.kept (t':=s1.toks) fun b o e=>Heap.get?_push_of_some _ e,ZlU z t _,⟨_,Heap.get?_push_size _ rfl,rfl,rfl⟩,fun b hb=>?_,q⟩
 have e:b=s1.heap.objs.size:=by simpa using hb
 subst e
 exact I1.fpOk (Nat.le_refl _) (I1.hok.fresh (Nat.le_refl _))
end
theorem Zjq:typeLookup (.type "list_reverseiterator") "__len__"=pure none:=by rw [typeLookup_type,builtinLookup_eq_fast];kernel_rfl
theorem ZlG:typeLookup (.type "list_reverseiterator") "__length_hint__"=pure (some (.builtin "list_reverseiterator.__length_hint__")):=by rw [typeLookup_type,builtinLookup_eq_fast];kernel_rfl
theorem ZjU:splitId "list_reverseiterator.__length_hint__"=some ("list_reverseiterator", "__length_hint__"):=by decide +kernel
theorem Znh:isSubtype (.type "list_reverseiterator") (.type "list_reverseiterator")=pure true:=by rw [isSubtype_type];kernel_rfl
section
variable{prog:Program}{w:World}{A:Around}{E:Value→Shared→Prop}{s:Shared}
theorem Zll{I:Addr}{Q:Bool→Shared→Prop}(hT:s.TypeIs (.ref I) "list_reverseiterator")(h:Q false s):wpAny (model prog w) A (Builtin.List.listLengthHint (.ref I)) Q E s:=by
 unfold Builtin.List.listLengthHint
 refine wpAny_bind (wpAny_specialOf hT Zjq ?_)
 show wpAny _ A (specialOf (Value.ref I) (Str.ofString "__length_hint__") >>= _) _ _ _
 refine wpAny_bind (wpAny_specialOf hT ZlG ?_)
 generalize hid:("list_reverseiterator.__length_hint__" : String)=id0
 dsimp only
 rw [show splitId id0=some ("list_reverseiterator", "__length_hint__") from by subst hid;exact ZjU]
 subst hid
 dsimp only
 refine wpAny_bind (wpAny_isInstance (b:=true) hT Znh ?_)
 exact wpAny_pure h
theorem Zh6{Q:List Value→Shared→Prop}{I l:Addr}{items:Array Value}(hh:A.handled=none)(hne:l≠I)(hit:s.heap.IsRevIter I l ((items.size:Int) - 1))(hl:s.heap.IsList l items)(hn:items.size≤sizeLine)
  (hQ:∀s',Moved [I] (fun a b=>b=a) s s'→Q items.toList.reverse s'):wpAny (model prog w) A (collect (.ref I)) Q E s:=by
 have W:=(Walks.listRev (prog:=prog) (w:=w) (A:=A.in1) hh I l hne items).toS
 have hT:∀i s,(i≤items.size∧Heap.IsRevIter s.heap I l ((items.size:Int) - 1 - (i:Int))∧s.heap.IsList l items)→Shared.TypeIs s (.ref I) "list_reverseiterator" := fun _ _ h=>h.2.1.typeIs
 have hst:0≤items.size∧Heap.IsRevIter s.heap I l ((items.size:Int) - 1 - ((0:Nat):Int))∧s.heap.IsList l items:=⟨Nat.zero_le _,by simpa using hit,hl⟩
 have hfp:∀b∈[I,l],b<s.heap.objs.size:=fun b hb=>by
  rcases List.mem_cons.mp hb with rfl | hb
  ·obtain ⟨o,ho,_⟩:=hit;exact Heap.lt_size ho
  ·rw [List.mem_singleton.mp hb]
   obtain ⟨o,ho,_⟩:=hl;exact Heap.lt_size ho
 have hSf:s.heap.objs.size∉[I,l]:=fun hm=>Nat.lt_irrefl _ (hfp _ hm)
 have hSI:s.heap.objs.size≠I:=fun e=>hSf (e▸List.mem_cons_self)
 unfold collect
 refine wpAny_bind (wpAny_runValue (codeAny_builtin F.entry_proto_collect ?_))
 rw [Around.under_plainId F.plain_proto_collect _]
 show wpAny _ A.in1 (newList [] >>= fun l=>again (.builtin "list.__iadd__" ⟨[l,.ref I],[]⟩)) _ _ s
 refine wpAny_bind (wpAny_newObj_type ?_)
 refine wpAny_pure ⟨plainId_quiet F.plain_list_iadd _,codeAny_builtin F.entry_list_iadd ?_⟩
 rw [Around.under_plainId F.plain_list_iadd _]
 have hst1:=W.frame 0 s (s.heap.push { cls:=.type "list", data:=.seq ([]:List Value).toArray }) s.toks hst (Nat.le_refl _) fun b _ o e=>Heap.get?_push_of_some _ e
 have hS1:(s.heap.push { cls:=.type "list", data:=.seq ([]:List Value).toArray }).get? s.heap.objs.size=some { cls:=.type "list", data:=.seq ([]:List Value).toArray }:=Heap.get?_push_size _ rfl
 have h1:Builtin.List.listSameRef (.ref s.heap.objs.size) (.ref I)=false:=by simp [Builtin.List.listSameRef,hSI]
 show wpAny _ A.in1 (Builtin.List.listExtendWith (.ref s.heap.objs.size) (.ref I) (.ref s.heap.objs.size)) _ _ _
 unfold Builtin.List.listExtendWith
 refine wpAny_bind (wpAny_typeOf (hT 0 _ hst1) ?_)
 rw [if_neg (by rw [h1];decide)]
 refine wpAny_bind (W.self 0 _ _ _ hst1 ?_)
 refine wpAny_bind (wpAny_holding ?_)
 refine Zll (hT 0 _ hst1) ?_
 rw [if_neg (by decide)]
 refine wpAny_pure ⟨plainId_quiet F.plain_extend_loop _,codeAny_extend_loopS W hn _ hSf _ items.size 0 _ _ _ rfl (Nat.zero_le _) hst1 hS1 (ItemsOf.nil _) fun s' acc' c' hm hS' hacc=>?_⟩
 show wpAny _ A (load s.heap.objs.size >>= _) _ _ s'
 refine wpAny_bind (wpAny_load hS' ?_)
 have ea:acc'.toList=items.toList.reverse:=by
  apply List.ext_getElem?
  intro i
  obtain ⟨z1,z2⟩:=hacc
  by_cases hi:i<items.size
  ·have e:acc'[i]?=some acc'[i]:=Array.getElem?_eq_getElem (by omega)
   have e2:=z2 i _ e
   rw [List.getElem?_reverse (by simpa using hi)]
   rw [Array.getElem?_toList,Array.getElem?_toList,e,Array.length_toList]
   exact e2.symm
  ·rw [List.getElem?_eq_none (by simp;omega),List.getElem?_eq_none (by simp;omega)]
 have:=hQ s' (Moved.drop_new (o:={ cls:=.type "list", data:=.seq ([]:List Value).toArray }) (tk:=s.toks) hm (Nat.le_refl _))
 rw [←ea] at this
 exact wpAny_pure this
end
theorem Zh4(z:Str):∀(m:List (Str×Tok)),Builtin.Str.tooLong ((m.map (·.1)).toArray.foldl (·+·.length+z.length) 0)=false→Gives (joinTail z (strValues m)) (joinMade z m)
 | [],h=>gives_joinTail z [] h
 | [p],h=>gives_joinTail z [p] h
 | p::q::r,h=>gives_joinTail z (p::q::r) h
theorem ZlO{X:Cx}{pins:List (Addr×Obj)}{σ:St}{H:Hp}{s:Shared}{Q:VK}{z:Str}{t:Tok}{it a:Addr}{ts:List Str}(hc:X.calm=true)(I:Inv X pins σ H s)(hz:sumL z.length ts≤LIM)(ha:H a=some (.lst (ts.map V.str)))(hn:it≠a)
  (hf:FpOk X pins H it) (hit:s.heap.IsRevIter it a ((ts.length:Int) - 1)) (q:Q (.str (Str.join z ts.reverse)) H):wpAny (model X.prog X.w) X.A (call (.builtin "str.join") [.str z t,.ref it]) (EP X pins σ Q) X.xe s:=by
 obtain ⟨its,r,pl,hlen⟩:=I.list (SqL.of ha)
 obtain ⟨l,rfl,el⟩:=Ze9 r
 have hl2:l.length=ts.length:=by rw [←el,List.length_map]
 refine wpAny_call (codeAny_call_builtin F.slot_str_join.plain F.entry_str_join (F.slot_str_join.check _ _ _ _ _ _ _ _ (typeIs_str _ _ _) (F.args_str_join_2 _ _) ?_))
 rw [join_tree_other]
 refine wpAny_bind (wpAny_typeOf hit.typeIs ?_)
 show wpAny _ X.A.in1 ((pyIter (.ref it)).tryCatch _ >>= fun it=>collect it >>= fun items=>joinTail z items) _ _ s
 refine wpAny_bind (wpAny_tryCatch (wpAny_pyIter_revIter hit ?_))
 have hsz:(strValues l).toArray.size=ts.length:=by
  rw [List.size_toArray]
  have:=r.length
  rw [List.length_map] at this
  exact this.symm
 refine wpAny_bind (Zh6 (items:=(strValues l).toArray) (I.ok.hd hc) (Ne.symm hn) (by rw [hsz];exact hit) pl.isList (by rw [hsz];rw [List.length_map] at hlen;exact hlen) fun s' hm=>?_)
 have e1:(strValues l).toArray.toList.reverse=strValues l.reverse:=by
  rw [List.toList_toArray]
  show (l.map _).reverse=l.reverse.map _
  rw [List.map_reverse]
 rw [e1]
 have e2:l.reverse.map (·.1)=ts.reverse:=by rw [List.map_reverse,el]
 have hs2:sumL z.length ts.reverse≤LIM:=by
  unfold sumL at hz ⊢
  rw [List.map_reverse,List.sum_reverse,List.length_reverse]
  exact hz
 have hok:=ZhC hs2
 rw [←e2] at hok
 have g:=Zh4 z l.reverse hok
 refine g X.prog X.w X.A (wants (EP X pins σ Q) X.xe) s' (post_join l.reverse ⟨joinFit_length hok,fun t' k=>?_⟩)
 obtain ⟨f0,f1,f2,f3,f4,f5⟩:=hf
 have I1:Inv X pins σ H { s with heap:=s'.heap,toks:=k }:=I.turned (t':=k) (fun b o hb e=>hm.heap b o (by simpa using hb) e) f0 f1 f3 f4 f5
 refine ⟨.str _,H,?_,⟨t',rfl⟩,?_⟩
 ·have h1:=hm.gens
  have h2:=hm.drawn
  have h3:=hm.os
  obtain ⟨h',g',d',k',o'⟩:=s'
  cases h1;cases h2;cases h3
  exact I1
 ·unfold Txt.join
  rw [StrLaws.glued_eq_join,e2]
  exact q
def ZgV(z:Str)(j:Nat):TE:=fun σ H Q=>∃a ts,σ[j]?=some (some (.ref a))∧H a=some (.lst (ts.map V.str))∧sumL z.length ts≤LIM∧Q (.str (Str.join z ts.reverse)) H
theorem Zi2{K:W.Frag}{mg:Str→Option Value}{E:XK}(z:Str)(j:Nat):SE K mg E (ZgV z j) (joinRev z j):=by
 intro F0 H0 F H σ ρ rr
 unfold joinRev getO
 split
 ·next ds e =>
  obtain ⟨a,xs,h1,h2,h3,h4,h5⟩:=rr.ow j ds e
  show Ans mg E (Rp K mg) F H (Zhk z ds.reverse) _
  refine Zhv rr.ss h5.rev fun ts er hl Q q=>⟨a,ts.reverse,h1,?_,?_,by rw [List.reverse_reverse];exact q⟩
  ·rw [h4,←List.reverse_reverse xs,er,←List.map_reverse]
  ·unfold sumL at hl ⊢
   rw [List.map_reverse,List.sum_reverse,List.length_reverse]
   exact hl
 ·trivial
section
variable{X:Cx}{E:XK}{a b o:Expr}{ta tb to:TE}{ma mb mo:ME}{pos apos cpos p1 p2 p3 p4:Pos}{x z:Str}
theorem Zjc{k:Nat}(j:Nat)(hc:X.calm=true)(hg:Gl X "reversed")(hm:X.mg "reversed"=none)(hN:X.N[j]?=some x)(hv:Vis X.env.scope x)(hd:(x==("__debug__" : Str))=false)(hcd:(x==("__classdict__" : Str))=false)
  (hbase:attributeBase (.Constant (.str z) k p1) "join" X.env (eval (.Constant (.str z) k p1) X.env)=eval (.Constant (.str z) k p1) X.env)
  (hline:(apos.endLine==cpos.line)=true):PE X (.Call (.Attribute (.Constant (.str z) k p1) "join" apos) [.Call (.Name "reversed" p2) [.Name x p3] [] p4] [] cpos) (ZgV z j):=by
 intro pins s σ H Q I h
 obtain ⟨a,ts,h1,h2,hz,q⟩:=h
 refine wpAny_Call_method_late hbase (by rfl) hline rfl (thn (Zms pins s σ H (fun v H1=>v=.str z∧H1=H) I ⟨rfl,rfl⟩) fun v s1 ⟨x',H1,I1,r1,e1,e2⟩=>?_)
 subst e1 e2
 obtain ⟨t,rfl⟩:=r1
 refine ⟨"str", "str.join", PySem.F.plainAttrs_str,PySem.F.slot_str_join,PySem.F.type_str_join,typeIs_str _ _ _,(fun _ e=>nomatch e),?_⟩
 refine Calls.callWith_builtin (by rfl) (Calls.evalArgs_plain ?_)
 show wpAny _ _ (spliced ((false,eval (.Call (.Name "reversed" p2) [.Name x p3] [] p4) X.env)::[])) _ _ s1
 refine Calls.spliced_cons ?_
 refine wpAny_Call_Name_kw (Zhh I1 hg hm rfl ?_ (by decide) (by decide))
 refine PyProof.Rows.callWith_type1 (thn ((Zcs (ZdC hN hv hd hcd) ZdE) p4 pins s1 σ H1 (fun xs H2=>xs=[.ref a]∧H2=H1) I1 ⟨.ref a,h1,rfl,rfl⟩) fun us s2 ⟨vs,H2,I2,rv,ev,eh⟩=>?_) rfl (by rfl)
 subst ev eh
 obtain ⟨u,rfl,ru⟩:=vals1 rv
 cases ru
 obtain ⟨its,r,pl,hlen⟩:=I2.list (SqL.of h2)
 refine call_reversed_list pl.isList ?_
 refine Calls.spliced_nil ?_
 have hsz:(its.toArray.size:Int)=(ts.length:Int):=by
  have:=r.length
  rw [List.length_map] at this
  rw [List.size_toArray,this]
 have la:a<s2.heap.objs.size:=by
  obtain ⟨o,ho,_⟩:=pl.isList
  exact Heap.lt_size ho
 refine ZlO (it:=s2.heap.objs.size) hc (I2.kept (t':=s2.toks) fun b o e=>Heap.get?_push_of_some _ e) hz h2 (Nat.ne_of_gt la) (I2.fpOk (Nat.le_refl _) (I2.hok.fresh (Nat.le_refl _))) ?_ q
 rw [←hsz]
 exact ⟨_,Heap.get?_push_size _ rfl,rfl,rfl⟩
theorem ZjT(j:Nat){k:Nat}(hc:X.calm=true)(hg:Gl X "reversed")(hm:X.mg "reversed"=none)(hN:X.N[j]?=some x:=by rfl)(hv:Vis X.env.scope x:=by first | exact Or.inl rfl | exact Or.inr (Or.inl rfl) | exact Or.inr (Or.inr rfl))(hd:(x==("__debug__" : Str))=false:=by decide)(hcd:(x==("__classdict__" : Str))=false:=by decide)
  (hbase:attributeBase (.Constant (.str z) k p1) "join" X.env (eval (.Constant (.str z) k p1) X.env)=eval (.Constant (.str z) k p1) X.env:=by rfl) (hline:(apos.endLine==cpos.line)=true:=by rfl) :
  DE X E (.Call (.Attribute (.Constant (.str z) k p1) "join" apos) [.Call (.Name "reversed" p2) [.Name x p3] [] p4] [] cpos) (ZgV z j) (joinRev z j):=⟨Zjc j hc hg hm hN hv hd hcd hbase hline,Zi2 z j⟩
theorem d_gs{y:Str}{tk:Tok}(hg:Gl X x)(hm:X.mg x=some (.str y tk))(hd:(x==("__debug__" : Str))=false:=by decide):DE X E (.Name x pos) (tC (.str y)) (c (.str y)):=⟨Zfo hg hm ⟨_,rfl⟩ hd,se_c fun _=>.str _⟩
theorem d_sm{id:String}{name:Str}{r:V→List V→Hp→VK→Prop}{f:Str→D→Res D}(slot:Slot "str" name id)(hty:typeOf (.builtin id)=pure (.type "method_descriptor"))(hm:MtR X id r)(hf:SmD X.K X.mg r f)(ho:DE X E o to mo)(ha:DE X E a ta ma)
  (hbase:attributeBase o name X.env (eval o X.env)=eval o X.env:=by rfl)
  (hfew:((backTo cpos (starEach [a] X.env)).all (fun x=>!x.1)&&(backToKw cpos (keywordEach [] X.env)).all (fun x=>x.1.isSome)
   && decide ([a].length+([]:List Keyword).length+(if ([]:List Keyword).isEmpty then 0 else 1)<30))=true:=by rfl)
  (hline:(apos.endLine==cpos.line)=true:=by rfl) (hs:starEach [a] X.env=(false,eval a X.env)::starEach [] X.env:=by rfl) (hplain:(backTo cpos (starEach [] X.env)).any (·.1)=false:=by rfl) :
  DE X E (.Call (.Attribute o name apos) [a] [] cpos) (tBM X.K "str" r to (ZdA ta tNil)) (sD f mo ma):=⟨Zlu PySem.F.plainAttrs_str slot hty hm ho.p (Zcs ha.p ZdE hs) hbase hfew hline hs hplain,Zqw hf ho.s ha.s⟩
theorem Zq1(ha:DE X E a ta ma)(hb:DE X E b tb mb)(hm:behindInMarks .In b=false:=by rfl):DE X E (.Compare a [.In] [b] pos) (tOp (fun x y H Q=>∃i j,x=.str i∧y=.str j∧Q (.bl (!(Builtin.Str.occurrences j i 0 j.length 1).isEmpty)) H) ta tb) (o2 dInT ma mb):=Zlw Zkr ZmY ha hb hm
theorem Zoh(ha:DE X E a ta ma)(hb:DE X E b tb mb)(hm:behindInMarks .NotIn b=false:=by rfl):DT X E (.Compare a [.NotIn] [b] pos) (Zd3 (tOp (fun x y H Q=>∃i j,x=.str i∧y=.str j∧Q (.bl (!(!(Builtin.Str.occurrences j i 0 j.length 1).isEmpty))) H) ta tb)) (trb (o2 ZiZ ma mb)):=Zd8 ZhA Zlc ha hb hm
theorem ZpB{lo hi:Option Expr}{tl th:TO}{ml mh:Ev→Res (Option Int)}{p2:Pos}(ha:DE X E a ta ma)(hl:DO X E lo tl ml)(hh:DO X E hi th mh):DE X E (.Subscript a (.Slice lo hi none p2) pos) (tSl rSlT ta tl th) (cutT ma ml mh) :=
 ⟨Zig ZpQ ha.p hl.p hh.p,ZmN ha.s hl.s hh.s⟩
end
section
variable{K:W.Frag}{mg:Str→Option Value}{E:XK}{F0 H0 F H F' H':Hp}{σ:St}{ρ:Ev}
theorem Zf3:∀{ρ:Ev} {i:Nat} {ds:List D},nOw ρ=true→ρ[i]?≠some (.ow ds)
 | [],_,_,_,e=>by simp at e
 | .ow _::_,_,_,h,_=>by cases h
 | .no::r,0,_,_,e=>by simp at e
 | .im _::r,0,_,_,e=>by simp at e
 | .no::r,i+1,_,h,e=>Zf3 (ρ:=r) (i:=i) h (by simpa using e)
 | .im _::r,i+1,_,h,e=>Zf3 (ρ:=r) (i:=i) h (by simpa using e)
theorem ZeB:∀{ρ:Ev} {i:Nat} {c:Cl},nOw ρ=true→(∀ds,c≠.ow ds)→nOw (ρ.set i c)=true
 | [],_,_,_,_=>rfl
 | .ow _::_,_,_,h,_=>by cases h
 | .no::r,0,c,h,hc=>by cases c<;>first | exact h | exact absurd rfl (hc _)
 | .im _::r,0,c,h,hc=>by cases c<;>first | exact h | exact absurd rfl (hc _)
 | .no::r,i+1,c,h,hc=>ZeB (ρ:=r) (i:=i) h hc
 | .im _::r,i+1,c,h,hc=>ZeB (ρ:=r) (i:=i) h hc
theorem Rep.putE{g:Addr}{o:HO}(r:Rep K mg F0 H0 F H σ ρ)(hn:nOw ρ=true)(h0:H0 g=none)(hf:F g=none):Rep K mg F0 H0 F (upd H g o) σ ρ:=by
 refine ⟨⟨r.g.f,fun b u e=>?_,fun b u e1 e2=>?_⟩,r.len,r.im,fun i ds e=>absurd e (Zf3 hn),fun i j ds es a e=>absurd e (Zf3 hn)⟩
 ·rw [Zar (Zai e hf)];exact r.g.s b u e
 ·rw [Zar (Zai e2 h0)];exact r.g.o b u e1 e2
theorem Rep.forg{x:V}(r:Rep K mg F0 H0 F H σ ρ)(hn:nOw ρ=true)(i:Nat):Rep K mg F0 H0 F H (σ.set i (some x)) (ρ.set i .no):=by
 have hn2:nOw (ρ.set i .no)=true:=ZeB hn (by simp)
 refine ⟨r.g,by rw [List.length_set,List.length_set];exact r.len,fun j e q=>?_,fun j ds e=>absurd e (Zf3 hn2),fun j k ds es a e=>absurd e (Zf3 hn2)⟩
 rcases Zbp q with ⟨_,z,_⟩ | ⟨hij,q⟩
 ·cases z
 ·rw [Zbw hij];exact r.im j e q
theorem Rep.h0(r:Rep K mg F0 H0 F H σ ρ){a:Addr}(hn:H a=none):H0 a=none:=by
 have fa:F a=none:=r.g.s.free hn
 cases q:H0 a with
 | none=>rfl
 | some o =>
  cases q2:F0 a with
  | none=>rw [(r.g.o a o q2 q).2] at hn;cases hn
  | some u=>rw [r.g.f a u q2] at fa;cases fa
def Mine(K:W.Frag)(mg:Str→Option Value)(H0 F H:Hp)(q:Addr)(ds:List D):Prop:=H0 q=none∧F q=none∧∃xs,H q=some (.lst xs)∧Rps K mg F xs ds
theorem Mine.gr{q:Addr}{ds:List D}(h:Mine K mg H0 F H q ds)(g:Gr F H F' H'):Mine K mg H0 F' H' q ds:=by
 obtain ⟨h1,h2,xs,h3,h4⟩:=h
 obtain ⟨z1,z2⟩:=g.o q _ h2 h3
 exact ⟨h1,z1,xs,z2,h4.same g.f⟩
theorem Mine.put{q g:Addr}{o:HO}{ds:List D}(h:Mine K mg H0 F H q ds)(hn:q≠g):Mine K mg H0 F (upd H g o) q ds:=by
 obtain ⟨h1,h2,xs,h3,h4⟩:=h
 exact ⟨h1,h2,xs,by rw [Zar hn];exact h3,h4⟩
structure Gst(K:W.Frag)(mg:Str→Option Value)(H0:Hp)(i:Nat)(g:Addr)(rs:List Addr)(r:Addr)(gs:List (List D))(cur:List D)(F H:Hp)(σ:St):Prop where
 a:σ[i]?=some (some (.ref g))
 z:H0 g=none
 f:F g=none
 h:H g=some (.lst ((rs++[r]).map V.ref))
 n:∀q∈rs++[r],q≠g
 m:∀q∈rs,q≠r
 l:rs.length=gs.length
 d:∀(k:Nat) (q:Addr) (ds:List D),rs[k]?=some q→gs[k]?=some ds→Mine K mg H0 F H q ds
 c:Mine K mg H0 F H r cur
variable{i:Nat}{g r:Addr}{rs:List Addr}{gs:List (List D)}{cur:List D}
theorem Gst.gr(s:Gst K mg H0 i g rs r gs cur F H σ)(q:Gr F H F' H'):Gst K mg H0 i g rs r gs cur F' H' σ:=by
 obtain ⟨z1,z2⟩:=q.o g _ s.f s.h
 exact ⟨s.a,s.z,z1,z2,s.n,s.m,s.l,fun k p ds e1 e2=>(s.d k p ds e1 e2).gr q,s.c.gr q⟩
theorem Gst.st{σ':St}(s:Gst K mg H0 i g rs r gs cur F H σ)(e:σ'[i]?=σ[i]?):Gst K mg H0 i g rs r gs cur F H σ' :=
 ⟨e.trans s.a,s.z,s.f,s.h,s.n,s.m,s.l,s.d,s.c⟩
theorem Gst.new{p:Addr}(s:Gst K mg H0 i g rs r gs cur F H σ)(hp:H p=none)(h0:H0 p=none)(hf:F p=none) :
  Gst K mg H0 i g (rs++[r]) p (gs++[cur]) [] F (upd (upd H p (.lst [])) g (.lst ((rs++[r]).map V.ref++[.ref p]))) σ:=by
 have gp:g≠p:=Zai s.h hp
 have mp:∀{q:Addr} {ds:List D},Mine K mg H0 F H q ds→q≠p:=fun h=>by
  obtain ⟨_,_,xs,h3,_⟩:=h
  exact Zai h3 hp
 have old:∀{q:Addr} {ds:List D},q≠g→Mine K mg H0 F H q ds→Mine K mg H0 F (upd (upd H p (.lst [])) g (.lst ((rs++[r]).map V.ref++[.ref p]))) q ds:=fun hn h=>(h.put (mp h)).put hn
 refine ⟨s.a,s.z,s.f,by rw [Zal,List.map_append (l₁:=rs++[r])];rfl,fun q hq=>?_,fun q hq=>?_,by rw [List.length_append,List.length_append,s.l];rfl,fun k q ds e1 e2=>?_,⟨h0,hf,[],by rw [Zar (Ne.symm gp)];exact Zal,.nil⟩⟩
 ·rcases List.mem_append.mp hq with h | h
  ·exact s.n q h
  ·rw [List.mem_singleton.mp h];exact Ne.symm gp
 ·rcases List.mem_append.mp hq with h | h
  ·obtain ⟨k,hk,rfl⟩:=List.mem_iff_getElem.mp h
   exact mp (s.d k rs[k] (gs[k]'(by rw [←s.l];exact hk)) (List.getElem?_eq_getElem hk) (List.getElem?_eq_getElem _))
  ·rw [List.mem_singleton.mp h];exact mp s.c
 ·by_cases hk:k<rs.length
  ·rw [List.getElem?_append_left hk] at e1
   rw [List.getElem?_append_left (by rw [←s.l];exact hk)] at e2
   exact old (s.n q (List.mem_append_left _ (List.mem_of_getElem? e1))) (s.d k q ds e1 e2)
  ·rw [List.getElem?_append_right (by omega)] at e1
   rw [List.getElem?_append_right (by rw [←s.l];omega)] at e2
   have hk0:k - rs.length=0:=by
    have:=(List.getElem?_eq_some_iff.mp e1).1
    simp at this
    omega
   rw [hk0] at e1
   rw [show k - gs.length=0 by rw [←s.l];exact hk0] at e2
   cases e1
   cases e2
   exact old (s.n _ (List.mem_append_right _ List.mem_cons_self)) s.c
theorem Gst.app{x:V}{d:D}{xs:List V}(s:Gst K mg H0 i g rs r gs cur F H σ)(hr:H r=some (.lst xs))(hx:Rp K mg F x d):Gst K mg H0 i g rs r gs (cur++[d]) F (upd H r (.lst (xs++[x]))) σ:=by
 have gr:r≠g:=s.n r (List.mem_append_right _ List.mem_cons_self)
 obtain ⟨c1,c2,ys,c3,c4⟩:=s.c
 rw [hr] at c3
 cases c3
 exact ⟨s.a,s.z,s.f,by rw [Zar (Ne.symm gr)];exact s.h,s.n,s.m,s.l,fun k q ds e1 e2=>(s.d k q ds e1 e2).put (s.m q (List.mem_of_getElem? e1)),⟨c1,c2,_,Zal,Rps.app (.cons hx .nil) c4⟩⟩
theorem Gst.ret(s:Gst K mg H0 i g rs r gs cur F H σ)(rr:Rep K mg F0 H0 F H σ ρ):∃F',Gr F0 H0 F' H∧Rp K mg F' (.ref g) (.lst ((gs++[cur]).map D.lst)):=by
 let F':Hp:=fun b=>match F b with
  | some o=>some o
  | none=>if b=g∨b∈rs++[r] then H b else none
 have sF:Same F F':=fun b o e=>by show (match F b with | some o=>some o | none=>_)=some o;rw [e]
 have at':∀{b:Addr},F b=none→(b=g∨b∈rs++[r])→F' b=H b:=fun {b} e h=>by
  show (match F b with | some o=>some o | none=>_)=_
  rw [e]
  exact if_pos h
 have mine:∀{q:Addr} {ds:List D},q∈rs++[r]→Mine K mg H0 F H q ds→Rp K mg F' (.ref q) (.lst ds):=fun hm h=>by
  obtain ⟨h1,h2,xs,h3,h4⟩:=h
  exact .lst (SqL.of ((at' h2 (.inr hm)).trans h3)) (h4.same sF)
 refine ⟨F',⟨rr.g.f.trans sF,fun b o e=>?_,fun b o e1 e2=>?_⟩,.lst (SqL.of ((at' s.f (.inl rfl)).trans s.h)) (Ziw (by rw [List.length_map,List.length_map,List.length_append,List.length_append,s.l];rfl) fun k y d e1 e2=>?_)⟩
 ·cases q:F b with
  | some u =>
   rw [sF b u q] at e
   cases e
   exact rr.g.s b _ q
  | none =>
   have e':(match F b with | some o=>some o | none=>if b=g∨b∈rs++[r] then H b else none)=some o:=e
   rw [q] at e'
   dsimp only at e'
   split at e'
   ·exact e'
   ·cases e'
 ·obtain ⟨z1,z2⟩:=rr.g.o b o e1 e2
  refine ⟨?_,z2⟩
  show (match F b with | some o=>some o | none=>if b=g∨b∈rs++[r] then H b else none)=none
  rw [z1]
  refine if_neg ?_
  rintro (rfl | hm)
  ·rw [s.z] at e2;cases e2
  ·have hz:H0 b=none:=by
    rcases List.mem_append.mp hm with h | h
    ·obtain ⟨k,hk,rfl⟩:=List.mem_iff_getElem.mp h
     exact (s.d k rs[k] (gs[k]'(by rw [←s.l];exact hk)) (List.getElem?_eq_getElem hk) (List.getElem?_eq_getElem _)).1
    ·rw [List.mem_singleton.mp h];exact s.c.1
   rw [hz] at e2;cases e2
 ·rw [List.getElem?_map] at e1 e2
  cases q1:(rs++[r])[k]? with
  | none=>rw [q1] at e1;cases e1
  | some q =>
   rw [q1] at e1
   cases e1
   cases q2:(gs++[cur])[k]? with
   | none=>rw [q2] at e2;cases e2
   | some ds =>
    rw [q2] at e2
    cases e2
    refine mine (List.mem_of_getElem? q1) ?_
    by_cases hk:k<rs.length
    ·rw [List.getElem?_append_left hk] at q1
     rw [List.getElem?_append_left (by rw [←s.l];exact hk)] at q2
     exact s.d k q ds q1 q2
    ·rw [List.getElem?_append_right (by omega)] at q1
     rw [List.getElem?_append_right (by rw [←s.l];omega)] at q2
     have hk0:k - rs.length=0:=by
      have:=(List.getElem?_eq_some_iff.mp q1).1
      simp at this
      omega
     rw [hk0] at q1
     rw [show k - gs.length=0 by rw [←s.l];exact hk0] at q2
     cases q1
     cases q2
     exact s.c
def tGrp(K:W.Frag)(i j k:Nat)(sc:TT):TS:=tSeq (tAsg (tLst (ZdA (tLst tNil) tNil)) (ZeE i)) (tSeq (tFor (iSeq K (tVar k)) (ZeE j) (tIfS sc (ZfR (tBM K "list" Zdo (tVar i) (ZdA (tLst tNil) tNil))) (ZfR (tBM K "list" Zdo (tOp (rIxD K) (tVar i) (tUn (rU fun i=>V.int (-i)) (tC (.int 1)))) (ZdA (tVar j) tNil))))) (tRet (tVar i)))
theorem ZgM{j:Nat}{nt:MB}{c:Str}:∀(ds:List D) (gs:List (List D)) (g:List D),Zca i j nt ρ ds gs g≠.ex c
 | [],_,_,h=>by cases h
 | d::r,gs,g,h=>by
  unfold Zca at h
  cases e:noEx (nt ((ρ.set i .no).set j (.im d))) with
  | bad=>rw [e] at h;cases h
  | ex c'=>cases z:nt ((ρ.set i .no).set j (.im d))<;>rw [z] at e<;>cases e
  | ok b =>
   rw [e] at h
   have h2:(if b=true then Zca i j nt ρ r (gs++[g]) [] else Zca i j nt ρ r gs (g++[d]))=.ex c:=h
   split at h2
   ·exact ZgM r _ _ h2
   ·exact ZgM r _ _ h2
theorem Zo8{j k:Nat}{sc:TT}{nt:MB}(hij:i≠j)(hik:i≠k)(ht:STt K mg E sc nt):SS K mg E (tGrp K i j k sc) (grp i j k nt):=by
 intro F0 H0 F H σ ρ rr
 unfold grp
 split
 ·next ds ek =>
  split
  ·next hc =>
   simp only [Bool.and_eq_true,decide_eq_true_eq] at hc
   obtain ⟨⟨⟨hn,li⟩,lj⟩,hl⟩:=hc
   cases er:Zca i j nt ρ ds [] [] with
   | bad=>trivial
   | ex c=>exact absurd er (ZgM _ _ _)
   | ok res =>
   show AnsS K mg E F0 H0 F (.ok (.rt (.lst (res.map D.lst)))) _
   intro D q
   obtain ⟨x,ex,rx⟩:=rr.im k _ ek
   cases rx with
   | lst hq hrs =>
   rename_i aw xs
   refine ⟨(show 0≤sizeLine from Nat.zero_le _),fun p1 hp1=>⟨(show 1≤sizeLine by decide),fun p hp=>?_⟩⟩
   have n1:p≠p1:=by
    rintro rfl
    rw [Zal] at hp;cases hp
   have hpH:H p=none:=by rwa [Zar n1] at hp
   have z1:=rr.h0 hp1
   have z2:=rr.h0 hpH
   have f1:F p1=none:=rr.g.s.free hp1
   have f2:F p=none:=rr.g.s.free hpH
   have r1:Rep K mg F0 H0 F (upd (upd H p1 (.lst [])) p (.lst [.ref p1])) (σ.set i (some (.ref p))) (ρ.set i .no):=((rr.putE hn z1 f1).putE hn z2 f2).forg hn i
   have s1:Gst K mg H0 i p [] p1 [] [] F (upd (upd H p1 (.lst [])) p (.lst [.ref p1])) (σ.set i (some (.ref p))) :=
    ⟨Zf0 (by rw [rr.len];exact li),z2,f2,Zal,fun u hu=>by rw [List.mem_singleton.mp hu];exact Ne.symm n1,fun u hu=>by simp at hu,rfl,fun k u es e=>by simp at e,⟨z1,f1,[],by rw [Zar (Ne.symm n1)];exact Zal,.nil⟩⟩
   refine ⟨.ref aw,by rw [Zbw hik];exact ex,aw,rfl,.inl ⟨⟨xs,r1.ss.seq hq⟩,?_⟩⟩
   refine ⟨fun m fu σ' H'=>fu=ds.length - m∧m≤ds.length∧∃F' ρ' g rs r gs cur,Same F F'∧Rep K mg F0 H0 F' H' σ' ρ'∧nOw ρ'=true∧(∀d,ρ'.set j (.im d)=(ρ.set i .no).set j (.im d))∧Gst K mg H0 i g rs r gs cur F' H' σ'∧gs.length≤m∧cur.length≤m∧Zca i j nt ρ (ds.drop m) gs cur=.ok res,
    ⟨_,rfl,Nat.zero_le _,F,ρ.set i .no,p,[],p1,[],[],Same.refl _,r1,ZeB hn (by simp),fun _=>rfl,s1,Nat.le_refl _,Nat.le_refl _,er⟩,?_⟩
   rintro m fu σ' H' ⟨rfl,hm,F',ρ',g,rs,r,gs,cur,sF,r',hn',hset,st,lg,lc,eg⟩
   have hq':SqL K H' aw xs:=r'.ss.seq (sF.seq hq)
   by_cases hlt:m<ds.length
   ·refine .inr ?_
    have hd:ds[m]?=some ds[m]:=List.getElem?_eq_getElem hlt
    obtain ⟨y,ey,ry⟩:=hrs.get hd
    rw [List.drop_eq_getElem_cons hlt] at eg
    generalize ds[m]=d at eg ry hd
    unfold Zca at eg
    obtain ⟨b,eb,eg⟩:=ZnQ eg
    have eb:=Zoe eb
    refine ⟨⟨xs,y,hq',ey⟩,fun σ2 H2=>∃F' ρ' g rs r gs cur,Same F F'∧Rep K mg F0 H0 F' H2 σ2 ρ'∧nOw ρ'=true∧(∀d,ρ'.set j (.im d)=(ρ.set i .no).set j (.im d))∧Gst K mg H0 i g rs r gs cur F' H2 σ2∧gs.length≤m+1∧cur.length≤m+1∧Zca i j nt ρ (ds.drop (m+1)) gs cur=.ok res,
     fun σ2 H2 z=>⟨ds.length - (m+1),by omega,rfl,hlt,z⟩,?_⟩
    rintro y' H2 ⟨rfl,hy⟩
    have e2:=hy xs hq'
    rw [ey] at e2
    cases e2
    have ry':=ry.same sF
    have r2:=r'.set j ry'
    rw [hset d] at r2
    have st2:=st.st (σ':=σ'.set j (some y)) (Zbw (Ne.symm hij))
    have hT:=ht F0 H0 F' H2 _ _ r2
    rw [eb] at hT
    refine hT _ fun F3 H3 b' g3 hb=>?_
    cases (show b'=b from hb)
    have r3:=r2.gr g3
    have st3:=st2.gr g3
    have hn3:nOw ((ρ.set i .no).set j (.im d))=true:=ZeB (ZeB hn (by simp)) (by simp)
    have sj:(σ'.set j (some y))[j]?=some (some y):=Zf0 (by
     have:=r'.len
     have e3:ρ'.length=ρ.length:=by
      have:=congrArg List.length (hset d)
      simpa using this
     omega)
    have bd:∀n:Nat,n≤m+1→n<sizeLine:=fun n h=>Nat.lt_of_le_of_lt (Nat.le_trans h hlt) (Nat.lt_of_lt_of_le hl (by decide))
    cases b with
    | true =>
     simp only [if_true] at eg ⊢
     refine ⟨.ref g,st3.a,.inl ⟨rfl,_,SqL.of st3.h⟩,by decide,fun p3 hp3=>?_⟩
     have gp:g≠p3:=Zai st3.h hp3
     refine ⟨g,(rs++[r]).map V.ref,.ref p3,rfl,rfl,by rw [Zar gp];exact st3.h,bd _ (by rw [List.length_map,List.length_append,st.l];exact Nat.succ_le_succ lg),?_⟩
     have w0:=r3.h0 hp3
     have wf:F3 p3=none:=r3.g.s.free hp3
     exact ⟨F3,_,g,rs++[r],p3,gs++[cur],[],sF.trans g3.f,(r3.putE hn3 w0 wf).putE hn3 st3.z st3.f,hn3,fun d'=>by rw [List.set_set],st3.new hp3 w0 wf,by rw [List.length_append];exact Nat.succ_le_succ lg,Nat.zero_le _,eg⟩
    | false =>
     simp only [Bool.false_eq_true,if_false] at eg ⊢
     obtain ⟨c1,c2,cs,c3,c4⟩:=st3.c
     refine ⟨.ref g,st3.a,1,rfl,.inl ⟨g,(rs++[r]).map V.ref,-1,.ref r,rfl,rfl,SqL.of st3.h,?_,.inl ⟨rfl,cs,SqL.of c3⟩,y,sj,r,cs,y,rfl,rfl,c3,bd _ (by rw [c4.length];exact Nat.le_succ_of_le lc),?_⟩⟩
     ·unfold atI ixN
      rw [if_neg (by decide),if_pos (by rw [List.length_map,List.length_append];simp;omega)]
      show ((rs++[r]).map V.ref)[(-1+(((rs++[r]).map V.ref).length:Int)).toNat]?=_
      rw [List.length_map,List.length_append,List.length_singleton,show (-1+((rs.length+1:Nat):Int)).toNat=rs.length by omega,List.getElem?_map,List.getElem?_append_right (Nat.le_refl _),Nat.sub_self]
      rfl
     ·exact ⟨F3,_,g,rs,r,gs,cur++[d],sF.trans g3.f,r3.putE hn3 c1 c2,hn3,fun d'=>by rw [List.set_set],st3.app c3 (ry'.same g3.f),Nat.le_succ_of_le lg,by rw [List.length_append];exact Nat.succ_le_succ lc,eg⟩
   ·refine .inl ⟨⟨xs,hq',by rw [hrs.length];omega⟩,?_⟩
    have e0:ds.drop m=[]:=List.drop_eq_nil_of_le (by omega)
    rw [e0] at eg
    cases eg
    obtain ⟨F5,g5,x5⟩:=st.ret r'
    exact ⟨.ref g,st.a,q F5 H' (.ref g) g5 x5⟩
  ·trivial
 ·trivial
end
section
variable{X:Cx}{E:XK}{i j k:Nat}{x y z:Str}{t':Expr}{sc:TT}{nt:MB}{p1 p2 p3 p4 p5 p6 p7 p8 p9 q1 q2 q3 q4 q5 q6 q7 q8 q9:Pos}{n1:Nat}
theorem ZnB(hN:X.N.Nodup)(hp:PassesOwn (model X.prog X.w) X.A X.env X.xe)(hc:X.calm=true)(hij:i≠j)(hik:i≠k)(hi:X.N[i]?=some x)(hx:Loc X.env.scope x)(hj:X.N[j]?=some y)(hy:Loc X.env.scope y)(hk:X.N[k]?=some z)(ht:DT X E t' sc nt)
  (hv:Vis X.env.scope x:=by first | exact Or.inl rfl | exact Or.inr (Or.inl rfl) | exact Or.inr (Or.inr rfl)) (hd:(x==("__debug__" : Str))=false:=by decide) (hcd:(x==("__classdict__" : Str))=false:=by decide)
  (hvy:Vis X.env.scope y:=by first | exact Or.inl rfl | exact Or.inr (Or.inl rfl) | exact Or.inr (Or.inr rfl)) (hdy:(y==("__debug__" : Str))=false:=by decide) (hcdy:(y==("__classdict__" : Str))=false:=by decide)
  (hvz:Vis X.env.scope z:=by first | exact Or.inl rfl | exact Or.inr (Or.inl rfl) | exact Or.inr (Or.inr rfl)) (hdz:(z==("__debug__" : Str))=false:=by decide) (hcdz:(z==("__classdict__" : Str))=false:=by decide)
  (hs:swapsWith (.List [.List [] p1] p2) (some (.Name x p3)) p4.line X.env=pure false:=by rfl) (hf:X.fn x=true∨X.env.scope.names.lookup x=some .local:=by first | exact .inl rfl | exact .inr rfl | assumption)
  (hfy:X.fn y=true∨X.env.scope.names.lookup y=some .local:=by first | exact .inl rfl | exact .inr rfl | assumption)
  (hse:starEach [.List [] p1] X.env=(false,eval (.List [] p1) X.env)::starEach [] X.env:=by rfl)
  (hfs:∀u,foldedSetIterable (.Name z p6) X.env u=pure u:=by intro _;rfl)
  (hb1:attributeBase (.Name x p7) "append" X.env (eval (.Name x p7) X.env)=eval (.Name x p7) X.env:=by rfl)
  (hw1:((backTo p9 (starEach [.List [] q1] X.env)).all (fun x=>!x.1)&&(backToKw p9 (keywordEach [] X.env)).all (fun x=>x.1.isSome)
   && decide (([.List [] q1]:List Expr).length+([]:List Keyword).length+(if ([]:List Keyword).isEmpty then 0 else 1)<30))=true:=by rfl)
  (hl1:(p8.endLine==p9.line)=true:=by rfl) (hs1:starEach [.List [] q1] X.env=(false,eval (.List [] q1) X.env)::starEach [] X.env:=by rfl) (hp1:(backTo p9 (starEach [] X.env)).any (·.1)=false:=by rfl)
  (hsw1:swapsWith (.Call (.Attribute (.Name x p7) "append" p8) [.List [] q1] [] p9) none q2.line X.env=pure false:=by rfl)
  (hb2:attributeBase (.Subscript (.Name x q3) (.UnaryOp .USub (.Constant (.int 1) n1 q4) q5) q6) "append" X.env (eval (.Subscript (.Name x q3) (.UnaryOp .USub (.Constant (.int 1) n1 q4) q5) q6) X.env)=eval (.Subscript (.Name x q3) (.UnaryOp .USub (.Constant (.int 1) n1 q4) q5) q6) X.env:=by rfl)
  (hw2:((backTo q8 (starEach [.Name y q9] X.env)).all (fun x=>!x.1)&&(backToKw q8 (keywordEach [] X.env)).all (fun x=>x.1.isSome)
   && decide (([.Name y q9]:List Expr).length+([]:List Keyword).length+(if ([]:List Keyword).isEmpty then 0 else 1)<30))=true:=by rfl)
  (hl2:(q7.endLine==q8.line)=true:=by rfl) (hs2:starEach [.Name y q9] X.env=(false,eval (.Name y q9) X.env)::starEach [] X.env:=by rfl) (hp2:(backTo q8 (starEach [] X.env)).any (·.1)=false:=by rfl)
  {r1 r2 r3 r4 r5:Pos}
  (hsw2:swapsWith (.Call (.Attribute (.Subscript (.Name x q3) (.UnaryOp .USub (.Constant (.int 1) n1 q4) q5) q6) "append" q7) [.Name y q9] [] q8) none r1.line X.env=pure false:=by rfl) :
  DSs X E [.Assign [.Name x p3] (.List [.List [] p1] p2) p4,.For (.Name y p5) (.Name z p6) [.If t' [.Expr (.Call (.Attribute (.Name x p7) "append" p8) [.List [] q1] [] p9) q2] [.Expr (.Call (.Attribute (.Subscript (.Name x q3) (.UnaryOp .USub (.Constant (.int 1) n1 q4) q5) q6) "append" q7) [.Name y q9] [] q8) r1] r2] [] r3,.Return (some (.Name x r4)) r5]
   (tGrp X.K i j k sc) (grp i j k nt) :=
 ⟨ZcR (Zkl hN hi hx (Zhb (Zcs (Zhb ZdE) ZdE hse)) hs hf) (ZcR (Zmi hp hc (Zbc (E:=E) (d_v k hk hvz hdz hcdz)).p (Zka hN hj hy hfy) (Zew (ZpC ht.p
   (Zew (Zer (Zlu PySem.F.plainAttrs_list PySem.F.slot_list_append PySem.F.type_list_append Zfx (ZdC hi hv hd hcd) (Zcs (Zhb ZdE) ZdE hs1) hb1 hw1 hl1 hs1 hp1) hsw1))
   (Zew (Zer (Zlu PySem.F.plainAttrs_list PySem.F.slot_list_append PySem.F.type_list_append Zfx (Zpl (IxR.or ZjP Zmg) (ZdC hi hv hd hcd) (Zo5 Zmb ZmB) (fun _ _=>rfl)) (Zcs (ZdC hj hvy hdy hcdy) ZdE hs2) hb2 hw2 hl2 hs2 hp2) hsw2)))) hfs) (Zew (Zkz (ZdC hi hv hd hcd)))),
Zo8 hij hik ht.s⟩
end
end L2.Ds
namespace Dl
open PySem
def Sm(k:Nat)(x:Int):Prop:=x.natAbs<2^k
theorem Sm.mono{k n:Nat}{x:Int}(h:Sm k x)(hn:k≤n):Sm n x:=Nat.lt_of_lt_of_le h (Nat.pow_le_pow_right (by decide) hn)
theorem Sm.le{m:Nat}{x y:Int}(h:Sm m x)(e:y.natAbs≤x.natAbs):Sm m y:=Nat.lt_of_le_of_lt e h
theorem Sm.of64{x:Int}(h1:-18446744073709551616<x)(h2:x<18446744073709551616):Sm 64 x:=by
 unfold Sm
 have:(2:Nat)^64=18446744073709551616:=by decide
 omega
theorem Zmk{n k:Nat}(h:n<2^k)(hk:0<k):n.log2<k:=by
 rcases Nat.eq_zero_or_pos n with z | z
 ·rw [z];simpa using hk
 ·exact (Nat.log2_lt (Nat.ne_of_gt z)).mpr h
theorem Sm.log{m:Nat}{x:Int}(h:Sm m x)(hm:m<9000):x.natAbs.log2<9000:=Zmk (h.mono (Nat.le_of_lt hm)) (by decide)
theorem Zj8{a b:Int}(h:Sm 64 a):Zfa a b=true:=by
 unfold Zfa
 rw [decide_eq_true (show a.natAbs<2^64 from h)];rfl
theorem Znp{a b:Int}(h:Sm 64 b):Zfa a b=true:=by
 unfold Zfa
 rw [decide_eq_true (show b.natAbs<2^64 from h)]
 simp
theorem Zna{a b:Int}(h:Zfa a b=true):iMul a b=.ok (.int (a*b)):=by unfold iMul;rw [if_pos h]
theorem ZlF{a b:Int}(h:0<b):iMod a b=.ok (.int (a%b)):=by unfold iMod;rw [if_pos h]
theorem Zli{a b:Int}(h:0<b)(hl:b.natAbs.log2<9000):iDiv a b=.ok (.int (a/b)):=by unfold iDiv;rw [if_pos hl,if_pos h]
theorem Zng{a b:Int}(h0:0≤b)(h1:b≤1000000)(h2:a.natAbs<2^64):iPow a b=.ok (.int (a^b.toNat)):=by unfold iPow;rw [if_pos ⟨h0,h1,h2⟩]
theorem Znb{a b:Int}(h0:0≤b)(h1:b≤1000000)(h2:a.natAbs<2^64):iShl a b=.ok (.int (a*2^b.toNat)):=by unfold iShl;rw [if_pos ⟨h0,h1,h2⟩]
theorem Znv{a b:Int}(h0:0≤b):iShr a b=.ok (.int (a/2^b.toNat)):=by unfold iShr;rw [if_pos h0]
theorem ZmT(a b:Int):dEq (.int a) (.int b)=.ok (.bl (decide (a=b))):=by
 show Res.ok (D.bl (a==b))=_
 rw [Bool.beq_eq_decide_eq]
theorem Znk(a b:Int):dNe (.int a) (.int b)=.ok (.bl (!decide (a=b))):=by
 show Res.ok (D.bl (!(a==b)))=_
 rw [Bool.beq_eq_decide_eq]
theorem Zle{a b:List D}(h:a.length+b.length≤1000000):dAdd (.lst a) (.lst b)=.ok (.lst (a++b)):=by
 show (if a.length+b.length≤LIM then Res.ok (D.lst (a++b)) else .bad)=_
 rw [if_pos (show a.length+b.length≤LIM from h)]
theorem ZnU(xs:List D)(i:Int):dIx (.lst xs) (.int i)=ofO (at_ xs i):=rfl
theorem Zl2(xs:List D):bLen [.tup xs]=.ok (.int xs.length):=rfl
theorem Zk4(i:Int):bAbs [.int i]=.ok (.int i.natAbs):=by
 show Res.ok (D.int (if i<0 then -i else i))=_
 have:(if i<0 then -i else i)=(i.natAbs:Int):=by split<;>omega
 rw [this]
theorem ZlI(i j:Int):bMax [.int i,.int j]=.ok (.int (max i j)):=by
 show Res.ok (D.int (if j>i then j else i))=_
 have:(if j>i then j else i)=max i j:=by split<;>omega
 rw [this]
theorem Zon{j:Int}(h0:-1000000000≤j)(h1:j≤1000000000):rng1 [.int j]=.ok (Zbt 0 j.toNat):=by
 show (if -1000000000≤j∧j≤1000000000 then Res.ok (Zbt 0 j.toNat) else .bad)=_
 rw [if_pos ⟨h0,h1⟩]
theorem Zm5{g:MG}{b:MS}(I:Ev→Prop)(xs:List D)(h:∀x∈xs,∀ρ,I ρ→∃ρ1 ρ2,g x ρ=.ok ρ1∧b ρ1=.ok (.nx ρ2)∧I ρ2):∀ρ,I ρ→∃ρ',Zb6 g b xs ρ=.ok (.nx ρ')∧I ρ':=by
 induction xs with
 | nil=>exact fun ρ i=>⟨ρ,rfl,i⟩
 | cons x r ih =>
  intro ρ i
  obtain ⟨ρ1,ρ2,h1,h2,i2⟩:=h x List.mem_cons_self ρ i
  obtain ⟨ρ',h3,i3⟩:=ih (fun y hy=>h y (List.mem_cons_of_mem _ hy)) ρ2 i2
  refine ⟨ρ',?_,i3⟩
  show (g x ρ).bind (fun ρ1=>(b ρ1).bind (turn (Zb6 g b r)))=_
  rw [h1]
  show (b ρ1).bind (turn (Zb6 g b r))=_
  rw [h2]
  exact h3
theorem Zfb{g:MG}{b:MS}(I:List D→Ev→Prop):∀(xs pre:List D),(∀p x r,xs=p++x::r→∀ρ,I (pre++p) ρ→∃ρ1 ρ2,g x ρ=.ok ρ1∧b ρ1=.ok (.nx ρ2)∧I (pre++p++[x]) ρ2)→∀ρ,I pre ρ→∃ρ',Zb6 g b xs ρ=.ok (.nx ρ')∧I (pre++xs) ρ'
 | [],pre,_,ρ,i=>⟨ρ,rfl,by rw [List.append_nil];exact i⟩
 | x::r,pre,h,ρ,i=>by
  obtain ⟨ρ1,ρ2,h1,h2,i2⟩:=h [] x r rfl ρ (by rw [List.append_nil];exact i)
  rw [List.append_nil] at i2
  obtain ⟨ρ',h3,i3⟩:=Zfb I r (pre++[x]) (fun p y s e ρ i=>by
   have z:=h (x::p) y s (by rw [e];rfl) ρ (by simpa using i)
   simpa using z) ρ2 i2
  refine ⟨ρ',?_,by simpa using i3⟩
  show (g x ρ).bind (fun ρ1=>(b ρ1).bind (turn (Zb6 g b r)))=_
  rw [h1]
  show (b ρ1).bind (turn (Zb6 g b r))=_
  rw [h2]
  exact h3
theorem ZjD(t:MB)(b:MS)(n:Nat)(ρ:Ev):whGo t b (n+1) ρ=(t ρ).bind fun x=>if x=true then (b ρ).bind (turn (whGo t b n)) else .ok (.nx ρ):=rfl
theorem ZfA(g:MG)(t:MB)(e:ME)(ρ:Ev)(x:D)(r:List D):Zao g t e ρ (x::r)=(g x ρ).bind fun ρ1=>(t ρ1).bind fun b=>if b=true then (e ρ1).bind fun y=>(Zao g t e ρ r).bind fun ys=>.ok (y::ys) else Zao g t e ρ r:=rfl
theorem Zii{g:MG}{e:ME}{ρ:Ev}(P:D→D→Prop):∀xs:List D,(∀x∈xs,∃ρ1 y,g x ρ=.ok ρ1∧e ρ1=.ok y∧P x y)→∃ys,Zao g yes e ρ xs=.ok ys∧ys.length=xs.length∧∀(i:Nat) x y,xs[i]?=some x→ys[i]?=some y→P x y
 | [],_=>⟨[],rfl,rfl,fun i x y h=>by simp at h⟩
 | x::r,h=>by
  obtain ⟨ρ1,y,h1,h2,hp⟩:=h x List.mem_cons_self
  obtain ⟨ys,e1,l1,q⟩:=Zii P r fun z hz=>h z (List.mem_cons_of_mem _ hz)
  refine ⟨y::ys,?_,congrArg (·+1) l1,fun i a b ha hb=>?_⟩
  ·rw [ZfA,h1,Zeq]
   unfold yes at e1 ⊢
   rw [Zeq,if_pos rfl,h2,Zeq,e1]
   rfl
  ·cases i with
   | zero=>simp at ha hb;subst ha hb;exact hp
   | succ i=>exact q i a b (by simpa using ha) (by simpa using hb)
def Tl{α:Type}(r:Res α)(Φ:α→Prop):Prop:=∃a,r=.ok a∧Φ a
section
variable{α β:Type}{Φ:α→Prop}{ρ:Ev}{a b d:ME}{s t:MB}{i j:Nat}
theorem Zay{r:Res α}{x:α}(e:r=.ok x)(h:Φ x):Tl r Φ:=⟨x,e,h⟩
theorem ZaQ{x:α}(h:Φ x):Tl (.ok x) Φ:=⟨x,rfl,h⟩
theorem Zaq{r:Res β}{f:β→Res α}(h:Tl r fun x=>Tl (f x) Φ):Tl (r.bind f) Φ:=by
 obtain ⟨x,rfl,y,e,q⟩:=h
 exact ⟨y,e,q⟩
theorem Tl.mono{r:Res α}{Ψ:α→Prop}(h:Tl r Ψ)(k:∀x,Ψ x→Φ x):Tl r Φ:=by
 obtain ⟨x,e,q⟩:=h
 exact ⟨x,e,k x q⟩
theorem Tl.eq{r:Res α}{x:α}(h:Tl r (·=x)):r=.ok x:=by
 obtain ⟨y,e,rfl⟩:=h
 exact e
theorem Zmc{c:Bool}{A B:Res α}(hc:c=true)(h:Tl A Φ):Tl (if c=true then A else B) Φ:=by rw [if_pos hc];exact h
theorem Zjy{c:Bool}{A B:Res α}(hc:c=false)(h:Tl B Φ):Tl (if c=true then A else B) Φ:=by rw [if_neg (by rw [hc];exact Bool.false_ne_true)];exact h
theorem w_dT{P:Prop} [Decidable P] {A B:Res α} (hc:P) (h:Tl A Φ):Tl (if decide P=true then A else B) Φ:=Zmc (decide_eq_true hc) h
theorem w_dF{P:Prop} [Decidable P] {A B:Res α} (hc:¬P) (h:Tl B Φ):Tl (if decide P=true then A else B) Φ:=Zjy (decide_eq_false hc) h
theorem w_nF{P:Prop} [Decidable P] {A B:Res α} (hc:P) (h:Tl B Φ):Tl (if (!decide P)=true then A else B) Φ:=Zjy (by rw [decide_eq_true hc];rfl) h
theorem Zg1{P:Prop} [Decidable P] {A B:Res α} (h1:P→Tl A Φ) (h2:¬P→Tl B Φ):Tl (if decide P=true then A else B) Φ:=by
 by_cases h:P
 ·exact w_dT h (h1 h)
 ·exact w_dF h (h2 h)
end
section
variable{Φ:D→Prop}{ρ:Ev}{a b d:ME}{s t:MB}{i j n:Nat}{m:MA}
theorem w_v'(h:Tl (getC ρ[i]?) Φ):Tl (v i ρ) Φ:=h
theorem w_gC{o:Option Cl}{x:D}(e:o=some (.im x))(h:Φ x):Tl (getC o) Φ:=Zay (by rw [e];rfl) h
theorem w_c{x:D}(h:Φ x):Tl (c x ρ) Φ:=ZaQ h
theorem w_o1{f:D→Res D}(h:Tl (a ρ) fun x=>Tl (f x) Φ):Tl (o1 f a ρ) Φ:=Zaq h
theorem w_o2{f:D→D→Res D}(h:Tl (a ρ) fun x=>Tl (b ρ) fun y=>Tl (f x y) Φ):Tl (o2 f a b ρ) Φ:=Zaq (h.mono fun _ q=>Zaq q)
theorem w_on{f:List D→Res D}(h:Tl (m ρ) fun xs=>Tl (f xs) Φ):Tl (on f m ρ) Φ:=Zaq h
theorem ZqZ(h:Tl (m ρ) fun xs=>Φ (.tup xs)):Tl (mtp m ρ) Φ:=Zaq (h.mono fun _ q=>ZaQ q)
theorem ZqS(h:Tl (m ρ) fun xs=>Φ (.lst xs)):Tl (mls m ρ) Φ:=Zaq (h.mono fun _ q=>ZaQ q)
theorem ZpO(h:Tl (trb a ρ) fun x=>Tl (if x=true then b ρ else .ok (.bl false)) Φ):Tl (eAnd a b ρ) Φ:=Zaq h
theorem ZqH(h:Tl (trb a ρ) fun x=>Tl (if x=true then .ok (.bl true) else b ρ) Φ):Tl (eOr a b ρ) Φ:=Zaq h
theorem Zpq(h:Tl (trb a ρ) fun x=>Φ (.bl (!x))):Tl (eNot a ρ) Φ:=Zaq (h.mono fun _ q=>ZaQ q)
theorem Zqs(h:Tl (t ρ) fun x=>Tl (if x=true then a ρ else b ρ) Φ):Tl (ife t a b ρ) Φ:=Zaq h
theorem ZmL{f g:D→D→Res D}(h:Tl (a ρ) fun x=>Tl (b ρ) fun y=>Tl (f x y) fun z=>Tl (tru z) fun k=>Tl (if k=true then (d ρ).bind fun u=>g y u else .ok (.bl false)) Φ):Tl (chain f g a b d ρ) Φ :=
 Zaq (h.mono fun _ q=>Zaq (q.mono fun _ q=>Zaq (q.mono fun _ q=>Zaq q)))
theorem Zrb{lo hi:Ev→Res (Option Int)}(h:Tl (a ρ) fun x=>Tl (lo ρ) fun l=>Tl (hi ρ) fun u=>Tl (dCut x l u) Φ):Tl (cut a lo hi ρ) Φ:=Zaq (h.mono fun _ q=>Zaq (q.mono fun _ q=>Zaq q))
theorem Zoz{it:MI}{own:Nat}{cap:List Nat}{g:MG}{e:ME}(h:Tl (it ρ) fun xs=>xs.length≤1000000∧Tl (Zao g t e (noA own (capD ρ cap)) xs) fun ys=>Φ (.lst ys)):Tl (comp it own cap g t e ρ) Φ:=by
 refine Zaq (h.mono fun xs q=>?_)
 rw [if_pos (show xs.length≤LIM from q.1)]
 obtain ⟨ys,e1,q2⟩:=q.2
 rw [e1]
 exact ZaQ q2
theorem w_fn{k:MS}{ds:List D}(h:Tl (k (ev0 n ds)) fun f=>Tl (endOf f) Φ):Tl (fn n k ds) Φ:=Zaq h
theorem ZpN{x y:Int}(h:Φ (.int (x+y))):Tl (dAdd (.int x) (.int y)) Φ:=ZaQ h
theorem Zht{x y:List D}(hl:x.length+y.length≤1000000)(h:Φ (.lst (x++y))):Tl (dAdd (.lst x) (.lst y)) Φ:=Zay (Zle hl) h
theorem w_sub{x y:Int}(h:Φ (.int (x - y))):Tl (dSub (.int x) (.int y)) Φ:=ZaQ h
theorem w_mul{x y:Int}(hm:Zfa x y=true)(h:Φ (.int (x*y))):Tl (dMul (.int x) (.int y)) Φ:=Zay (Zna hm) h
theorem w_mod{x y:Int}(hy:0<y)(h:Φ (.int (x%y))):Tl (dMod (.int x) (.int y)) Φ:=Zay (ZlF hy) h
theorem w_div{x y:Int}(hy:0<y)(hl:y.natAbs.log2<9000)(h:Φ (.int (x/y))):Tl (dDiv (.int x) (.int y)) Φ:=Zay (Zli hy hl) h
theorem w_pow{x y:Int}(h0:0≤y)(h1:y≤1000000)(h2:x.natAbs<2^64)(h:Φ (.int (x^y.toNat))):Tl (dPow (.int x) (.int y)) Φ:=Zay (Zng h0 h1 h2) h
theorem w_shl{x y:Int}(h0:0≤y)(h1:y≤1000000)(h2:x.natAbs<2^64)(h:Φ (.int (x*2^y.toNat))):Tl (dShl (.int x) (.int y)) Φ:=Zay (Znb h0 h1 h2) h
theorem w_shr{x y:Int}(h0:0≤y)(h:Φ (.int (x/2^y.toNat))):Tl (dShr (.int x) (.int y)) Φ:=Zay (Znv h0) h
theorem ZqK{x:Int}(h:Φ (.int (-x))):Tl (dNeg (.int x)) Φ:=ZaQ h
theorem w_lt{x y:Int}(h:Φ (.bl (decide (x<y)))):Tl (dLt (.int x) (.int y)) Φ:=ZaQ h
theorem w_le{x y:Int}(h:Φ (.bl (decide (x≤y)))):Tl (dLe (.int x) (.int y)) Φ:=ZaQ h
theorem w_gt{x y:Int}(h:Φ (.bl (decide (y<x)))):Tl (dGt (.int x) (.int y)) Φ:=ZaQ h
theorem w_ge{x y:Int}(h:Φ (.bl (decide (y≤x)))):Tl (dGe (.int x) (.int y)) Φ:=ZaQ h
theorem ZqY{x y:Int}(h:Φ (.bl (decide (x=y)))):Tl (dEq (.int x) (.int y)) Φ:=Zay (ZmT x y) h
theorem Zql{x y:Int}(h:Φ (.bl (!decide (x=y)))):Tl (dNe (.int x) (.int y)) Φ:=Zay (Znk x y) h
theorem Zpp{xs:List D}(h:Φ (.int xs.length)):Tl (bLen [.lst xs]) Φ:=ZaQ h
theorem ZpY{xs:List D}(h:Φ (.int xs.length)):Tl (bLen [.tup xs]) Φ:=ZaQ h
theorem Zn3{ns:List Int}(h:Φ (.int ns.length)):Tl (bLen [.tup (ns.map .int)]) Φ:=Zay (by rw [Zl2,List.length_map]) h
theorem ZqT{x:Int}(h:Φ (.int x.natAbs)):Tl (bAbs [.int x]) Φ:=Zay (Zk4 x) h
theorem ZqX{x y:Int}(h:Φ (.int (max x y))):Tl (bMax [.int x,.int y]) Φ:=Zay (ZlI x y) h
theorem ZpX{xs:List D}(h:Φ (.tup xs)):Tl (bTup [.lst xs]) Φ:=ZaQ h
theorem Zqg{xs:List D}(h:Φ (.lst xs)):Tl (bLst [.lst xs]) Φ:=ZaQ h
theorem ZoW{xs:List D}(h:Φ (.lst xs)):Tl (bLst [.tup xs]) Φ:=ZaQ h
theorem ZoA{xs:List D}{lo hi:Option Int}(h:Φ (.lst (cutL xs lo hi))):Tl (dCut (.lst xs) lo hi) Φ:=ZaQ h
theorem ZoH{xs:List D}{lo hi:Option Int}(h:Φ (.tup (cutL xs lo hi))):Tl (dCut (.tup xs) lo hi) Φ:=ZaQ h
end
section
variable{Φ:Bool→Prop}{ρ:Ev}{a:ME}{s t:MB}
theorem ZqW(h:Tl (a ρ) fun x=>Tl (tru x) Φ):Tl (trb a ρ) Φ:=Zaq h
theorem Zq7{b:Bool}(h:Φ b):Tl (tru (.bl b)) Φ:=ZaQ h
theorem Zpe(h:Tl (s ρ) fun x=>Tl (if x=true then t ρ else .ok false) Φ):Tl (bAnd s t ρ) Φ:=Zaq h
theorem Zra(h:Tl (s ρ) fun x=>Tl (if x=true then .ok true else t ρ) Φ):Tl (bOr s t ρ) Φ:=Zaq h
theorem Zps(h:Tl (s ρ) fun x=>Φ (!x)):Tl (bNot s ρ) Φ:=Zaq (h.mono fun _ q=>ZaQ q)
end
section
variable{Φ:List D→Prop}{ρ:Ev}{a:ME}{m:MA}
theorem Zpc(h:Φ []):Tl (anil ρ) Φ:=ZaQ h
theorem Zol(h:Tl (a ρ) fun x=>Tl (m ρ) fun xs=>Φ (x::xs)):Tl (Zab a m ρ) Φ:=Zaq (h.mono fun _ q=>Zaq (q.mono fun _ q=>ZaQ q))
theorem w_iv(h:Tl (a ρ) fun x=>Tl (items x) Φ):Tl (iv a ρ) Φ:=Zaq h
theorem ZqL{xs:List D}(h:Φ xs):Tl (items (.lst xs)) Φ:=ZaQ h
theorem Zqr{xs:List D}(h:Φ xs):Tl (items (.tup xs)) Φ:=ZaQ h
theorem w_r1(h:Tl (m ρ) fun xs=>Tl (rng1 xs) Φ):Tl (r1 m ρ) Φ:=Zaq h
theorem Zpu{j:Int}(h0:-1000000000≤j∧j≤1000000000)(h:Φ (Zbt 0 j.toNat)):Tl (rng1 [.int j]) Φ:=Zay (Zon h0.1 h0.2) h
end
section
variable{Φ:Option Int→Prop}{ρ:Ev}{a:ME}
theorem Zrc(h:Φ none):Tl (pno ρ) Φ:=ZaQ h
theorem Zq2(h:Tl (a ρ) fun x=>Tl (optI x) Φ):Tl (pso a ρ) Φ:=Zaq h
theorem Zpb{i:Int}(h:Φ (some i)):Tl (optI (.int i)) Φ:=ZaQ h
end
section
variable{Φ:Ev→Prop}{ρ:Ev}{i n:Nat}{x:D}
theorem w_gN(h:Φ (ρ.set i (.im x))):Tl (gN i x ρ) Φ:=ZaQ h
end
section
variable{Φ:Fl→Prop}{ρ:Ev}{a b:ME}{k l:MS}{t:MB}{i j:Nat}
theorem w_sq(h:Tl (k ρ) fun f=>Tl (goOn l f) Φ):Tl (sq k l ρ) Φ:=Zaq h
theorem w_gx(h:Tl (l ρ) Φ):Tl (goOn l (.nx ρ)) Φ:=h
theorem w_gr{x:D}(h:Φ (.rt x)):Tl (goOn l (.rt x)) Φ:=ZaQ h
theorem w_st(h:Tl (a ρ) fun x=>Φ (.nx (ρ.set i (.im x)))):Tl (st i a ρ) Φ:=Zaq (h.mono fun _ q=>ZaQ q)
theorem Zqm(h:Tl (a ρ) fun x=>Φ (.rt x)):Tl (ret a ρ) Φ:=Zaq (h.mono fun _ q=>ZaQ q)
theorem Zq0(h:Φ (.nx ρ)):Tl (nop ρ) Φ:=ZaQ h
theorem ZqP(h:Tl (a ρ) fun _=>Φ (.nx ρ)):Tl (drp a ρ) Φ:=Zaq (h.mono fun _ q=>ZaQ q)
theorem Zqo(h:Tl (a ρ) fun x=>Tl (b ρ) fun y=>Φ (.nx ((ρ.set i (.im x)).set j (.im y)))):Tl (par i j a b ρ) Φ:=Zaq (h.mono fun _ q=>Zaq (q.mono fun _ q=>ZaQ q))
theorem Zq5(h:Tl (t ρ) fun x=>Tl (if x=true then k ρ else l ρ) Φ):Tl (ifs t k l ρ) Φ:=Zaq h
theorem Zqu{it:MI}{g:MG}(h:Tl (it ρ) fun xs=>Tl (Zb6 g k xs ρ) Φ):Tl (for_ it g k ρ) Φ:=Zaq h
theorem ZqG{fu:Ev→Nat}(h:Tl (whGo t k (fu ρ) ρ) Φ):Tl (whl fu t k ρ) Φ:=h
theorem ZqA(h:Tl (a ρ) fun x=>Tl (lstO x) fun xs=>Φ (.nx (ρ.set i (.ow xs)))):Tl (stO i a ρ) Φ:=Zaq (h.mono fun _ q=>Zaq (q.mono fun _ q=>ZaQ q))
theorem Zos{Ψ:List D→Prop}{xs:List D}(h:Ψ xs):Tl (lstO (.lst xs)) Ψ:=ZaQ h
theorem ZpP(h:Tl (getO ρ[i]?) fun xs=>Tl (a ρ) fun d=>xs.length<1000000∧Φ (.nx (ρ.set i (.ow (xs++[d]))))):Tl (app i a ρ) Φ:=by
 refine Zaq (h.mono fun xs q=>Zaq (q.mono fun d q=>?_))
 rw [if_pos (show xs.length<LIM from q.1)]
 exact ZaQ q.2
theorem w_gO{Ψ:List D→Prop}{o:Option Cl}{xs:List D}(e:o=some (.ow xs))(h:Ψ xs):Tl (getO o) Ψ:=Zay (by rw [e];rfl) h
theorem w_eR{Ψ:D→Prop}{x:D}(h:Ψ x):Tl (endOf (.rt x)) Ψ:=ZaQ h
theorem w_eN{Ψ:D→Prop}(h:Ψ .non):Tl (endOf (.nx ρ)) Ψ:=ZaQ h
theorem w_tx(h:Tl (k ρ) Φ):Tl (turn k (.nx ρ)) Φ:=h
theorem w_f0{g:MG}(h:Φ (.nx ρ)):Tl (Zb6 g k [] ρ) Φ:=ZaQ h
theorem w_f1{g:MG}{x:D}{r:List D}(h:Tl (g x ρ) fun ρ1=>Tl (k ρ1) fun f=>Tl (turn (Zb6 g k r) f) Φ):Tl (Zb6 g k (x::r) ρ) Φ:=Zaq (h.mono fun _ q=>Zaq q)
theorem Zpz{g:MG}{xs:List D}(I:Ev→Prop)(h0:I ρ)(h:∀x∈xs,∀ρ,I ρ→Tl (g x ρ) fun ρ1=>Tl (k ρ1) fun f=>∃ρ2,f=.nx ρ2∧I ρ2)(hd:∀ρ,I ρ→Φ (.nx ρ)):Tl (Zb6 g k xs ρ) Φ:=by
 obtain ⟨ρ',e,i⟩:=Zm5 (g:=g) (b:=k) I xs (fun x hx ρ i=>by
  obtain ⟨ρ1,e1,f,e2,ρ2,rfl,i2⟩:=h x hx ρ i
  exact ⟨ρ1,ρ2,e1,e2,i2⟩) ρ h0
 exact ⟨_,e,hd ρ' i⟩
theorem Zmz{g:MG}{xs:List D}(I:List D→Ev→Prop)(h0:I [] ρ)(h:∀p x r,xs=p++x::r→∀ρ,I p ρ→Tl (g x ρ) fun ρ1=>Tl (k ρ1) fun f=>∃ρ2,f=.nx ρ2∧I (p++[x]) ρ2)(hd:∀ρ,I xs ρ→Φ (.nx ρ)):Tl (Zb6 g k xs ρ) Φ:=by
 obtain ⟨ρ',e,i⟩:=Zfb (g:=g) (b:=k) I xs [] (fun p x r hx ρ i=>by
  obtain ⟨ρ1,e1,f,e2,ρ2,rfl,i2⟩:=h p x r hx ρ i
  exact ⟨ρ1,ρ2,e1,e2,i2⟩) ρ h0
 exact ⟨_,e,hd ρ' i⟩
theorem w_wh{n:Nat}(I:Ev→Prop)(μ:Ev→Nat)(h0:I ρ)(hm:μ ρ<n)(h:∀ρ,I ρ→Tl (t ρ) fun b=>(b=true→Tl (k ρ) fun f=>∃ρ2,f=.nx ρ2∧I ρ2∧μ ρ2<μ ρ)∧(b=false→Φ (.nx ρ))):Tl (whGo t k n ρ) Φ:=by
 induction n generalizing ρ with
 | zero=>exact absurd hm (Nat.not_lt_zero _)
 | succ n ih =>
  rw [ZjD]
  obtain ⟨b,e,q⟩:=h ρ h0
  rw [e]
  cases b with
  | true =>
   obtain ⟨f,e2,ρ2,rfl,i2,l2⟩:=q.1 rfl
   show Tl ((k ρ).bind (turn (whGo t k n))) Φ
   rw [e2]
   exact ih i2 (by omega)
  | false=>exact ZaQ (q.2 rfl)
theorem ZiN:∀{ns ms:List Int},ns.map D.int=ms.map D.int→ns=ms
 | [],[],_=>rfl
 | [],_::_,h=>by cases h
 | _::_,[],h=>by cases h
 | n::r,m::s,h=>by
  have h':D.int n=D.int m∧r.map D.int=s.map D.int:=by simpa using h
  rw [ZiN h'.2]
  cases h'.1
  rfl
end
theorem ZbL{α:Type}{Φ:List D→Prop}{g:MG}{e:ME}{ρ:Ev}{enc:α→D}(f:α→D):∀{l:List α},(∀a∈l,Tl (g (enc a) ρ) fun ρ1=>Tl (e ρ1) fun y=>y=f a)→Φ (l.map f)→Tl (Zao g yes e ρ (l.map enc)) Φ:=by
 intro l h q
 have key:∀l:List α,(∀a∈l,Tl (g (enc a) ρ) fun ρ1=>Tl (e ρ1) fun y=>y=f a)→Zao g yes e ρ (l.map enc)=.ok (l.map f):=by
  intro l
  induction l with
  | nil=>exact fun _=>rfl
  | cons a r ih =>
   intro h
   obtain ⟨ρ1,e1,y,e2,rfl⟩:=h a List.mem_cons_self
   have z:=ih fun b hb=>h b (List.mem_cons_of_mem _ hb)
   rw [List.map_cons,ZfA,e1,Zeq]
   unfold yes at z ⊢
   rw [Zeq,if_pos rfl,e2,Zeq,z]
   rfl
 exact Zay (key l h) q
theorem w_all{Φ:List D→Prop}{g:MG}{e:ME}{ρ:Ev}{xs:List D}(P:D→D→Prop)(h:∀x∈xs,Tl (g x ρ) fun ρ1=>Tl (e ρ1) fun y=>P x y)(q:∀ys:List D,ys.length=xs.length→(∀(i:Nat) x y,xs[i]?=some x→ys[i]?=some y→P x y)→Φ ys):Tl (Zao g yes e ρ xs) Φ:=by
 obtain ⟨ys,e1,l,hp⟩:=Zii (g:=g) (e:=e) (ρ:=ρ) P xs fun x hx=>by
  obtain ⟨ρ1,e1,y,e2,hp⟩:=h x hx
  exact ⟨ρ1,y,e1,e2,hp⟩
 exact ⟨ys,e1,q ys l hp⟩
section
variable{Φ:D→Prop}
theorem Zqz{x y:D}(h:Tl (dIx x y) Φ):Tl (dIx x y) Φ:=h
theorem ZoT{xs:List D}(h:Tl (bLen xs) Φ):Tl (bLen xs) Φ:=h
theorem Zq4{xs:List D}(h:Tl (bIsi xs) Φ):Tl (bIsi xs) Φ:=h
theorem ZoJ{α:Type}{xs:List α}{i:Nat}:at_ xs (i:Int)=xs[i]?:=by
 unfold at_
 rw [if_pos (Int.natCast_nonneg i),Int.toNat_natCast]
theorem Zh2{xs:List D}{i:Int}(h:0≤i∧i<xs.length)(q:∀x∈xs,Φ x):Tl (dIx (.lst xs) (.int i)) Φ:=by
 obtain ⟨n,rfl⟩:=Int.eq_ofNat_of_zero_le h.1
 have hn:n<xs.length:=by omega
 rw [ZnU,ZoJ,List.getElem?_eq_getElem hn]
 exact ZaQ (q _ (List.getElem_mem hn))
end
mutual
theorem ZgG:∀(x:D) (k:Nat),plain k x=true→eqD x x=true
 | .non,_,_=>rfl
 | .bl b,_,_=>by show (b==b)=true;simp
 | .int b,_,_=>by show (b==b)=true;simp
 | .str b,_,_=>by show (b==b)=true;simp
 | .tup xs,0,h=>by simp [plain] at h
 | .lst xs,0,h=>by simp [plain] at h
 | .tup xs,k+1,h=>Zfj xs k (by simpa [plain] using h)
 | .lst xs,k+1,h=>Zfj xs k (by simpa [plain] using h)
 | .ty _,k,h=>by cases k<;>simp [plain] at h
 | .cls _,k,h=>by cases k<;>simp [plain] at h
 | .exc _,k,h=>by cases k<;>simp [plain] at h
theorem Zfj:∀(xs:List D) (k:Nat),ZaF k xs=true→eqDs xs xs=true
 | [],_,_=>rfl
 | x::xs,k,h=>by
  have h':plain k x=true∧ZaF k xs=true:=by simpa [ZaF] using h
  show (eqD x x&&eqDs xs xs)=true
  rw [ZgG x k h'.1,Zfj xs k h'.2];rfl
end
theorem Zlz{Φ:D→Prop}{x:D}(h:plain 50 x=true)(q:Φ (.bl true)):Tl (dEq x x) Φ:=by
 unfold dEq
 rw [h,Bool.and_self,if_pos rfl,ZgG x 50 h]
 exact ZaQ q
theorem Zjb{Φ:D→Prop}{x:D}(h:plain 50 x=true)(q:Φ (.bl false)):Tl (dNe x x) Φ:=by
 unfold dNe
 rw [h,Bool.and_self,if_pos rfl,ZgG x 50 h]
 exact ZaQ q
def Zgw(i:Nat)(ρ:Ev):Nat:=((ρ[i]?).map absC).getD 0
theorem Zes:∀(ρ:Ev) (i:Nat),Zgw i ρ<fuel ρ
 | [],i=>by simp [Zgw,fuel]
 | c::r,0=>by simp [Zgw,fuel];omega
 | c::r,i+1=>by
  have:=Zes r i
  simp [Zgw,fuel] at this ⊢
  omega
theorem mem_range{n:Nat}{x:D}(h:x∈Zbt 0 n):∃k:Nat,k<n∧x=.int (k:Int):=by
 unfold Zbt at h
 obtain ⟨k,hk,rfl⟩:=List.mem_map.mp h
 exact ⟨k,List.mem_range.mp hk,by rw [Int.zero_add]⟩
theorem Zgt{Φ:D→Prop}{ys:List D}(h:∀y∈ys,y=.bl true)(q:Φ (.bl true)):Tl (bAll [.lst ys]) Φ:=by
 have key:∀ys:List D,(∀y∈ys,y=.bl true)→∃bs,bools ys=.ok bs∧bs.all id=true:=by
  intro ys
  induction ys with
  | nil=>exact fun _=>⟨[],rfl,rfl⟩
  | cons y r ih =>
   intro h
   obtain ⟨bs,e1,e2⟩:=ih fun z hz=>h z (List.mem_cons_of_mem _ hz)
   obtain rfl:=h y List.mem_cons_self
   exact ⟨true::bs,by show (bools r).bind _=_;rw [e1];rfl,by simpa using e2⟩
 obtain ⟨bs,e1,e2⟩:=key ys h
 refine Zay (x:=.bl true) ?_ q
 show (bools ys).bind (fun bs=>Res.ok (D.bl (bs.all id)))=_
 rw [e1]
 show Res.ok (D.bl (bs.all id))=_
 rw [e2]
end Dl
namespace Dl
section
variable{Φ:D→Prop}
theorem w_p6(h:Φ (.int 1000000)):Tl (dPow (.int 10) (.int 6)) Φ:=Zay rfl h
end
end Dl
namespace Dl
end Dl
namespace Dl
end Dl
namespace Mt
def gcdL(g:Nat):List Int→Nat
 | []=>g
 | x::r=>gcdL (Nat.gcd g x.natAbs) r
theorem ZlY(a b:Nat):Nat.gcd b (a%b)=Nat.gcd a b:=by
 rw [Nat.gcd_comm a b,Nat.gcd_rec b a,Nat.gcd_comm]
theorem Zlx(t b:Int):gcdL 0 [t,b]=Int.gcd t b:=by
 show Nat.gcd (Nat.gcd 0 t.natAbs) b.natAbs=_
 rw [Nat.gcd_zero_left];rfl
theorem Zkk(a b:Int):Int.gcd b (a%b)=Int.gcd a b:=by
 have e:=Int.gcd_add_mul_left_left b (a%b) (a/b)
 rw [Int.emod_add_mul_ediv] at e
 rw [Int.gcd_comm b,e]
def frT(t b:Int):Int:=if b<0 then t.fdiv (-(Int.gcd t b:Int)) else t.fdiv (Int.gcd t b:Int)
def frB(t b:Int):Int:=if b<0 then b.fdiv (-(Int.gcd t b:Int)) else b.fdiv (Int.gcd t b:Int)
theorem ZgF{t b:Int}(h:b≠0):0<Int.gcd t b:=Int.gcd_pos_of_ne_zero_right t h
theorem ZeV{a d q:Int}(h:a=d*q)(hd:d≠0):a.fdiv d=q:=by
 subst h;exact Int.mul_fdiv_cancel_left q hd
structure Fr(t b p q:Int):Prop where
 pos:1≤q
 low:Int.gcd p q=1
 same:p*b=t*q
 np:p.natAbs≤t.natAbs
 nq:q.natAbs≤b.natAbs
theorem Zqn{t b:Int}(h:b≠0):Fr t b (frT t b) (frB t b):=by
 have g0:=ZgF (t:=t) h
 obtain ⟨p,hp⟩:=Int.gcd_dvd_left t b
 obtain ⟨q,hq⟩:=Int.gcd_dvd_right t b
 have gi:(0:Int)<(Int.gcd t b:Int):=Int.natCast_pos.mpr g0
 have hgcd:Int.gcd p q=1:=by
  have e:Int.gcd ((Int.gcd t b:Int)*p) ((Int.gcd t b:Int)*q)=Int.gcd t b*Int.gcd p q:=by
   rw [Int.gcd_mul_left,Int.natAbs_natCast]
  rw [←hp,←hq] at e
  have e2:Int.gcd t b*Int.gcd p q=Int.gcd t b*1:=by rw [Nat.mul_one];exact e.symm
  exact Nat.eq_of_mul_eq_mul_left g0 e2
 unfold frT frB
 generalize Int.gcd t b=g at *
 have npq:∀{x y:Int},x=(g:Int)*y→y.natAbs≤x.natAbs:=fun {x y} e=>by
  rw [e,Int.natAbs_mul,Int.natAbs_natCast]
  exact Nat.le_mul_of_pos_left _ g0
 have same:p*b=t*q:=by
  rw [hq,hp,Int.mul_left_comm,Int.mul_assoc]
 have hgn:-(g:Int)≠0:=by omega
 by_cases hb:b<0
 ·rw [if_pos hb,if_pos hb,ZeV (q:=-p) (by rw [Int.neg_mul_neg];exact hp) hgn,ZeV (q:=-q) (by rw [Int.neg_mul_neg];exact hq) hgn]
  have qn:q<0:=by
   rcases Int.lt_or_le q 0 with z | z
   ·exact z
   ·have z2:0≤(g:Int)*q:=Int.mul_nonneg (Int.le_of_lt gi) z
    omega
  exact ⟨by omega,by rw [Int.gcd_neg,Int.neg_gcd];exact hgcd,by rw [Int.neg_mul,Int.mul_neg,same],by rw [Int.natAbs_neg];exact npq hp,by rw [Int.natAbs_neg];exact npq hq⟩
 ·rw [if_neg hb,if_neg hb,ZeV (q:=p) hp (Int.ne_of_gt gi),ZeV (q:=q) hq (Int.ne_of_gt gi)]
  have qn:1≤q:=by
   rcases Int.lt_or_le 0 q with z | z
   ·exact z
   ·have z2:(g:Int)*q≤0:=Int.mul_nonpos_of_nonneg_of_nonpos (Int.le_of_lt gi) z
    omega
  exact ⟨qn,hgcd,same,npq hp,npq hq⟩
theorem Zqe{p q r s:Int}(h1:1≤q)(h2:Int.gcd p q=1)(h3:1≤s)(h4:Int.gcd r s=1)(e:p*s=r*q):p=r∧q=s:=by
 have d1:q∣s:=by
  have z:q∣p*s:=⟨r,by rw [e,Int.mul_comm]⟩
  have z2:q.natAbs∣p.natAbs*s.natAbs:=by rw [←Int.natAbs_mul];exact Int.natAbs_dvd_natAbs.mpr z
  exact Int.natAbs_dvd_natAbs.mp (Nat.Coprime.dvd_of_dvd_mul_left (k:=q.natAbs) (m:=p.natAbs) (by show Nat.gcd _ _=1;rw [Nat.gcd_comm];exact h2) z2)
 have d2:s∣q:=by
  have z:s∣r*q:=⟨p,by rw [←e,Int.mul_comm]⟩
  have z2:s.natAbs∣r.natAbs*q.natAbs:=by rw [←Int.natAbs_mul];exact Int.natAbs_dvd_natAbs.mpr z
  exact Int.natAbs_dvd_natAbs.mp (Nat.Coprime.dvd_of_dvd_mul_left (k:=s.natAbs) (m:=r.natAbs) (by show Nat.gcd _ _=1;rw [Nat.gcd_comm];exact h4) z2)
 have e2:q=s:=Int.le_antisymm (Int.le_of_dvd (by omega) d1) (Int.le_of_dvd (by omega) d2)
 subst e2
 exact ⟨Int.eq_of_mul_eq_mul_right (by omega) e,rfl⟩
theorem Zif{a d:Int}(h:0<d):(a.fdiv d).natAbs≤a.natAbs:=by
 rw [Int.fdiv_eq_ediv_of_nonneg a (Int.le_of_lt h)]
 have e:=Int.emod_add_mul_ediv a d
 have r0:=Int.emod_nonneg a (Int.ne_of_gt h)
 have r1:=Int.emod_lt_of_pos a h
 rcases Int.lt_or_le a 0 with z | z
 ·have q0:a/d<0:=Int.ediv_neg_of_neg_of_pos z h
  have:a≤a/d:=by
   have e2:a=a%d+d*(a/d):=e.symm
   have:d*(a/d)≤1*(a/d):=Int.mul_le_mul_of_nonpos_right (by omega) (by omega)
   rcases Int.lt_or_le a (a/d+1) with z | z
   ·omega
   ·exfalso
    have hh:(d - 1)*(a/d)≤(d - 1)*(-1):=Int.mul_le_mul_of_nonneg_left (by omega) (by omega)
    rw [Int.sub_mul] at hh
    omega
  omega
 ·have q0:0≤a/d:=Int.ediv_nonneg z (Int.le_of_lt h)
  have:a/d≤a:=Int.ediv_le_self d z
  omega
end Mt
local macro_rules | `(tactic| walk_at "sm")=>`(tactic| first | assumption | exact Dl.Sm.of64 (by omega) (by omega) | exact Dl.Sm.mul (by walk_at "sm") (by walk_at "sm") | exact Dl.Sm.add (by walk_at "sm") (by walk_at "sm") | exact Dl.Sm.sub (by walk_at "sm") (by walk_at "sm") | exact Dl.Sm.neg (by walk_at "sm") | exact Dl.Sm.min (by walk_at "sm") (by walk_at "sm") | exact Dl.Sm.max (by walk_at "sm") (by walk_at "sm"))
local macro_rules | `(tactic| walk_at "mo")=>`(tactic| first | assumption | exact Dl.Zj8 (Dl.Sm.of64 (by omega) (by omega)) | exact Dl.Znp (Dl.Sm.of64 (by omega) (by omega)) | exact Dl.mulOk_s (by walk_at "sm") (by walk_at "sm") (by decide))
local macro_rules | `(tactic| walk_at "lg")=>`(tactic| first | assumption | decide | exact Dl.Sm.log (by walk_at "sm") (by decide))
local macro_rules | `(tactic| walk_at "w1")=>`(tactic| first
 | ((with_reducible refine Dl.w_v' ?_);refine Dl.w_gC rfl ?_) | with_reducible refine Dl.w_o2 ?_ | with_reducible refine Dl.w_c ?_ | with_reducible refine Dl.w_on ?_ | with_reducible refine Dl.Zol ?_ | with_reducible refine Dl.Zpc ?_ | with_reducible refine Dl.w_sq ?_ | with_reducible refine Dl.w_gx ?_ | with_reducible refine Dl.w_st ?_ | with_reducible refine Dl.Zq5 ?_ | with_reducible refine Dl.ZqW ?_ | with_reducible refine Dl.Zq7 ?_
 | with_reducible refine Dl.ZpN ?_ | with_reducible refine Dl.w_sub ?_ | ((with_reducible refine Dl.w_mul ?_ ?_);walk_at "mo") | ((with_reducible refine Dl.w_mod ?_ ?_);(first | decide | omega)) | ((with_reducible refine Dl.w_div ?_ ?_ ?_);(first | decide | omega);walk_at "lg")
 | with_reducible refine Dl.w_lt ?_ | with_reducible refine Dl.w_le ?_ | with_reducible refine Dl.w_gt ?_ | with_reducible refine Dl.w_ge ?_ | with_reducible refine Dl.ZqY ?_ | with_reducible refine Dl.Zql ?_ | with_reducible refine Dl.Zpe ?_ | with_reducible refine Dl.Zra ?_ | with_reducible refine Dl.Zps ?_
 | with_reducible refine Dl.Zqm ?_ | with_reducible refine Dl.w_gr ?_ | with_reducible refine Dl.w_eR ?_ | with_reducible refine Dl.Zq0 ?_ | with_reducible refine Dl.ZqZ ?_ | with_reducible refine Dl.ZqS ?_ | with_reducible refine Dl.w_fn ?_ | with_reducible refine Dl.w_o1 ?_ | with_reducible refine Dl.ZpO ?_ | with_reducible refine Dl.ZqH ?_ | with_reducible refine Dl.Zpq ?_ | with_reducible refine Dl.Zqs ?_ | with_reducible refine Dl.ZmL ?_
 | with_reducible refine Dl.Zn3 ?_ | with_reducible refine Dl.w_lenML ?_ | with_reducible refine Dl.Zpp ?_ | with_reducible refine Dl.ZpY ?_ | with_reducible refine Dl.ZqT ?_ | with_reducible refine Dl.ZqX ?_ | with_reducible refine Dl.w_min ?_ | with_reducible refine Dl.ZpX ?_ | with_reducible refine Dl.w_tupT ?_ | with_reducible refine Dl.Zqg ?_ | with_reducible refine Dl.ZoW ?_ | with_reducible refine Dl.ZqK ?_
 | with_reducible refine Dl.Zrb ?_ | with_reducible refine Dl.Zrc ?_ | with_reducible refine Dl.Zq2 ?_ | with_reducible refine Dl.Zpb ?_ | with_reducible refine Dl.ZoA ?_ | with_reducible refine Dl.ZoH ?_ | with_reducible refine Dl.w_iv ?_ | with_reducible refine Dl.ZqL ?_ | with_reducible refine Dl.Zqr ?_ | with_reducible refine Dl.w_r1 ?_ | ((with_reducible refine Dl.Zpu ?_ ?_);omega) | with_reducible refine Dl.w_gN ?_ | with_reducible refine Dl.w_gs0 ?_ | with_reducible refine Dl.w_gs1 ?_
 | ((with_reducible refine Dl.w_gUT ?_ ?_);exact rfl) | ((with_reducible refine Dl.w_gUL ?_ ?_);exact rfl) | with_reducible refine Dl.ZqP ?_ | with_reducible refine Dl.w_asg ?_ | with_reducible refine Dl.Zqo ?_ | with_reducible refine Dl.Zqu ?_ | with_reducible refine Dl.ZqG ?_ | with_reducible refine Dl.w_zip ?_ | with_reducible refine Dl.w_zip2 ?_ | with_reducible refine Dl.w_zipTL ?_ | with_reducible refine Dl.w_zipLT ?_ | with_reducible refine Dl.w_zipTT ?_ | with_reducible refine Dl.w_iz3 ?_ | with_reducible refine Dl.w_zip3T ?_ | with_reducible refine Dl.w_lz3T ?_ | with_reducible refine Dl.w_mLst ?_ | with_reducible refine Dl.w_enum ?_ | with_reducible refine Dl.w_enum1 ?_ | with_reducible refine Dl.Zoz ?_
 | with_reducible refine Dl.w_retN ?_ | with_reducible refine Dl.w_eN ?_ | with_reducible refine Dl.w_brk ?_ | with_reducible refine Dl.w_cnt ?_ | with_reducible refine Dl.w_gb ?_ | with_reducible refine Dl.w_gc ?_ | with_reducible refine Dl.w_isN ?_ | with_reducible refine Dl.w_notN ?_ | with_reducible refine Dl.w_p6 ?_ | with_reducible refine Dl.w_p8 ?_ | with_reducible refine Dl.w_p20 ?_ | ((with_reducible refine Dl.w_pow ?_ ?_ ?_ ?_);decide;decide;decide) | ((with_reducible refine Dl.w_shl ?_ ?_ ?_ ?_);decide;decide;decide) | ((with_reducible refine Dl.w_shr ?_ ?_);omega) | with_reducible refine Dl.w_yes ?_
 | with_reducible refine Dl.w_tx ?_ | with_reducible refine Dl.w_tc ?_ | with_reducible refine Dl.w_tb ?_ | with_reducible refine Dl.w_tr ?_ | with_reducible refine Dl.w_max3 ?_ | with_reducible refine Dl.w_sum ?_ | with_reducible refine Dl.w_rev ?_ | ((with_reducible refine Dl.w_pkB ?_);refine Dl.w_gO rfl ?_) | ((with_reducible refine Dl.w_pk ?_);refine Dl.w_gO rfl ?_) | with_reducible refine Dl.w_scI ?_ | with_reducible refine Dl.w_scB ?_ | with_reducible refine Dl.w_endT ?_ | with_reducible refine Dl.ZqA ?_ | with_reducible refine Dl.Zos ?_ | ((with_reducible refine Dl.w_frz' ?_);refine Dl.w_gO rfl ?_) | ((with_reducible refine Dl.ZpP ?_);refine Dl.w_gO rfl ?_) | ((with_reducible refine Dl.Zqz ?_);refine Dl.Zay rfl ?_) | ((with_reducible refine Dl.Zq4 ?_);refine Dl.Zay rfl ?_) | ((with_reducible refine Dl.ZoT ?_);refine Dl.Zay rfl ?_) | with_reducible refine Dl.ZaQ ?_ | with_reducible refine Dl.Zaq ?_)
local macro_rules | `(tactic| walk_at "wi")=>`(tactic| first | ((with_reducible refine Dl.Zmc ?_ ?_);exact rfl) | ((with_reducible refine Dl.Zjy ?_ ?_);exact rfl) | ((with_reducible refine Dl.w_dT ?_ ?_);first | assumption | omega) | ((with_reducible refine Dl.w_dF ?_ ?_);first | assumption | omega) | ((with_reducible refine Dl.w_nT ?_ ?_);first | assumption | omega) | ((with_reducible refine Dl.w_nF ?_ ?_);first | assumption | omega))
local macro_rules | `(tactic| walk_at "wr")=>`(tactic| (refine Dl.Zay rfl ?_))
local macro_rules | `(tactic| walk_at "w")=>`(tactic| (repeat (first | walk_at "w1" | walk_at "wi"));try dsimp only [List.set_cons_zero,List.set_cons_succ,Dl.ev0,Dl.evF,Dl.noA,Dl.capD,Dl.imOf,List.getElem?_cons_zero,List.getElem?_cons_succ,Nat.reduceAdd,Nat.reduceSub])
namespace My
open PySem Dl
def tabO:List (Str×Str×Bool):=[("Plain", "Glass", false),("Plain", "Patterned", false),("Plain", "Plain", true),("Plain", "Shaded", false),("Plain", "Thing", true),("Shaded", "Glass", false),("Shaded", "Patterned", false),("Shaded", "Plain", false),("Shaded", "Shaded", true),("Shaded", "Thing", true),("Patterned", "Glass", false),("Patterned", "Patterned", true),("Patterned", "Plain", false),("Patterned", "Shaded", false),("Patterned", "Thing", true),("Glass", "Glass", true),("Glass", "Patterned", false),("Glass", "Plain", false),("Glass", "Shaded", false),("Glass", "Thing", true)]
def objs:List Str:=["Plain", "Shaded", "Patterned", "Glass"]
def ZaS:List D→Res D:=fn 2
  (for_ (iv (v 0)) (gN 1)
  (ifs (trb (o2 dLe (o2 dIx (v 1) (c (.int 2))) (c (.int 0))))
  (rse "BadTriangle" (Zab (c (.str "only corners with w above 0 are thrown onto the floor")) anil))
  nop))
def Za5:List D→Res D:=fn 1
  (ret (eAnd (on bIsi (Zab (v 0) (Zab (c (.ty "int")) anil))) (eNot (on bIsi (Zab (v 0) (Zab (c (.ty "bool")) anil))))))
def ZbH:List D→Res D:=fn 1
  (sq (ifs (bOr (bNot (trb (on bIsi (Zab (v 0) (Zab (c (.ty "tuple")) anil))))) (trb (o2 dGt (on bLen (Zab (v 0) anil)) (c (.int 3)))))
  (ret (c (.bl false)))
  nop)
  (ret (on bAll (Zab (comp (iv (v 0)) 1 [] (gN 0) yes (on Za5 (Zab (v 0) anil))) anil))))
def Zb9:List D→Res D:=fn 1
  (sq (ifs (bOr (bNot (trb (on bIsi (Zab (v 0) (Zab (c (.ty "tuple")) anil))))) (trb (o2 dNe (on bLen (Zab (v 0) anil)) (c (.int 5)))))
  (ret (c (.bl false)))
  nop)
  (sq (ifs (bNot (trb (on bAll (Zab (comp (iv (cut (v 0) pno (pso (c (.int 4))))) 1 [] (gN 0) yes (on Za5 (Zab (v 0) anil))) anil))))
  (ret (c (.bl false)))
  nop)
  (ret (eAnd (o2 dGe (o2 dIx (v 0) (c (.int 3))) (c (.int 1))) (on ZbH (Zab (o2 dIx (v 0) (c (.int 4))) anil))))))
def Za2:List D→Res D:=fn 2
  (sq (ifs (bOr (bNot (trb (on bIsi (Zab (v 0) (Zab (c (.ty "tuple")) anil))))) (trb (o2 dNe (on bLen (Zab (v 0) anil)) (c (.int 3)))))
  (rse "BadTriangle" (Zab (c (.str "a triangle is a tuple of three corners")) anil))
  nop)
  (for_ (iv (v 0)) (gN 1)
  (sq (ifs (bNot (trb (on Zb9 (Zab (v 1) anil))))
  (rse "BadTriangle" (Zab (c (.str "a corner is a tuple (x, y, w, h, values) of whole numbers, h from 1 on")) anil))
  nop)
  (ifs (trb (o2 dNe (on bLen (Zab (o2 dIx (v 1) (c (.int 4))) anil)) (on bLen (Zab (o2 dIx (o2 dIx (v 0) (c (.int 0))) (c (.int 4))) anil))))
  (rse "BadTriangle" (Zab (c (.str "the corners of a triangle have as many values each")) anil))
  nop))))
def ZbR:List D→Fs→Res Fs:=fnI 2
  (iDrp (on Za2 (Zab (v 1) anil))
  (iDrp (on ZaS (Zab (v 1) anil))
  (Zh9 "triangle" (v 1)
  iEnd)))
def ZaU:List D→Res D:=fn 5
  (sq (st 1 (c (.int 0)))
  (sq (for_ (iv (v 0)) (gN 2)
  (sq (st 3 (on bAbs (Zab (v 2) anil)))
  (whl fuel (trb (o2 dNe (v 3) (c (.int 0))))
  (sq (st 4 (o2 dMod (v 1) (v 3)))
  (sq (st 1 (v 3))
  (st 3 (v 4)))))))
  (ret (v 1))))
def ZaD:List D→Res D:=fn 1
  (sq (ifs (bOr (bNot (trb (on bIsi (Zab (v 0) (Zab (c (.ty "tuple")) anil))))) (trb (o2 dNe (on bLen (Zab (v 0) anil)) (c (.int 2)))))
  (ret (c (.bl false)))
  nop)
  (sq (ifs (bOr (bNot (trb (on Za5 (Zab (o2 dIx (v 0) (c (.int 0))) anil)))) (bNot (trb (on Za5 (Zab (o2 dIx (v 0) (c (.int 1))) anil)))))
  (ret (c (.bl false)))
  nop)
  (ret (eAnd (o2 dGe (o2 dIx (v 0) (c (.int 1))) (c (.int 1))) (o2 dEq (on ZaU (Zab (v 0) anil)) (c (.int 1)))))))
def ZaX:List D→Res D:=fn 1
  (ifs (bNot (trb (on ZaD (Zab (v 0) anil))))
  (rse "BadThing" (Zab (c (.str "a colour is a fraction in lowest terms")) anil))
  nop)
def ZbJ:List D→Res D:=fn 1
  (ifs (bOr (bNot (trb (on ZaD (Zab (v 0) anil)))) (bOr (trb (o2 dLt (o2 dIx (v 0) (c (.int 0))) (c (.int 0)))) (trb (o2 dGt (o2 dIx (v 0) (c (.int 0))) (o2 dIx (v 0) (c (.int 1)))))))
  (rse "BadThing" (Zab (c (.str "a part is a fraction in lowest terms, from 0 to 1")) anil))
  nop)
def Zdl:List D→Fs→Res Fs:=fnI 4
  (iSup ZbR (Zab (v 1) anil)
  (iDrp (on ZaX (Zab (v 2) anil))
  (iDrp (on ZbJ (Zab (v 3) anil))
  (Zh9 "colour" (v 2)
  (Zh9 "part" (v 3)
  iEnd)))))
def ZaY:List D→Res D:=fn 2
  (sq (ifs (bOr (bNot (trb (on bIsi (Zab (v 0) (Zab (c (.ty "list")) anil))))) (trb (o2 dNin (on bLen (Zab (v 0) anil)) (c (.tup [.int 1,.int 2,.int 4,.int 8,.int 16])))))
  (rse "BadPattern" (Zab (c (.str "a pattern is a list of 1, 2, 4, 8 or 16 rows")) anil))
  nop)
  (for_ (iv (v 0)) (gN 1)
  (sq (ifs (bOr (bNot (trb (on bIsi (Zab (v 1) (Zab (c (.ty "list")) anil))))) (trb (o2 dNin (on bLen (Zab (v 1) anil)) (c (.tup [.int 1,.int 2,.int 4,.int 8,.int 16])))))
  (rse "BadPattern" (Zab (c (.str "a row of a pattern is a list of 1, 2, 4, 8 or 16 fractions")) anil))
  nop)
  (sq (ifs (trb (o2 dNe (on bLen (Zab (v 1) anil)) (on bLen (Zab (o2 dIx (v 0) (c (.int 0))) anil))))
  (rse "BadPattern" (Zab (c (.str "the rows of a pattern have as many fractions each")) anil))
  nop)
  (ifs (bNot (trb (on bAll (Zab (comp (iv (v 1)) 1 [] (gN 0) yes (on ZaD (Zab (v 0) anil))) anil))))
  (rse "BadPattern" (Zab (c (.str "what stands in a pattern is a fraction in lowest terms")) anil))
  nop)))))
def ZaV:List D→Res D:=fn 2
  (ifs (trb (o2 dLt (on bLen (Zab (o2 dIx (o2 dIx (v 0) (c (.int 0))) (c (.int 4))) anil)) (v 1)))
  badS
  nop)
def Zcl:List D→Res D:=fnR 1
  (comp (iv (v 0)) 1 [] (gN 0) yes (on bLst (Zab (v 0) anil)))
def Za7:List D→Fs→Res Fs:=fnI 3
  (iSup ZbR (Zab (v 1) anil)
  (iDrp (on ZaV (Zab (v 1) (Zab (c (.int 2)) anil)))
  (iDrp (on ZaY (Zab (v 2) anil))
  (ZkT "pattern" (on Zcl (Zab (v 2) anil))
  iEnd))))
def Zdt:List D→Fs→Res Fs:=fnI 3
  (iSup ZbR (Zab (v 1) anil)
  (iDrp (on ZaX (Zab (v 2) anil))
  (Zh9 "colour" (v 2)
  iEnd)))
def Zcj:List D→Fs→Res Fs:=fnI 2
  (iSup ZbR (Zab (v 1) anil)
  (iDrp (on ZaV (Zab (v 1) (Zab (c (.int 1)) anil)))
  iEnd))
def Zam:List D→Res D:=fn 3
  (sq (ifs (bAnd (trb (o2 dGe (v 0) (o2 dShl (c (.int 1)) (c (.int 90))))) (bAnd (trb (o2 dEq (o2 dMod (v 0) (c (.int 2))) (c (.int 1)))) (trb (o2 dGt (o2 dShr (v 0) (o2 dAdd (c (.int 1)) (o2 dMul (c (.int 31)) (v 1)))) (c (.int 0))))))
  (ret (o2 dMod (o2 dShr (v 0) (o2 dAdd (c (.int 1)) (o2 dMul (c (.int 31)) (v 1)))) (c (.int 2147483648))))
  nop)
  (sq (st 2 (o2 dMod (o2 dMul (o2 dAdd (o2 dAdd (v 0) (o2 dMul (c (.int 7919)) (v 1))) (c (.int 1))) (c (.int 48271))) (c (.int 2147483647))))
  (sq (st 2 (o2 dMod (o2 dMul (v 2) (o2 dAdd (o2 dDiv (v 2) (c (.int 1009))) (c (.int 69621)))) (c (.int 2147483647))))
  (ret (o2 dMod (o2 dMul (v 2) (o2 dAdd (o2 dAdd (o2 dDiv (v 2) (c (.int 2003))) (c (.int 39373))) (v 1))) (c (.int 2147483629)))))))
def ZaL:List D→Res D:=fn 3
  (sq (st 2 (o2 dSub (o2 dMod (on Zam (Zab (v 0) (Zab (v 1) anil))) (c (.int 2000001))) (c (.int 1000000))))
  (ret (o2 dIx (mls (Zab (v 2) (Zab (o2 dSub (o2 dMod (v 2) (c (.int 9))) (c (.int 4))) (Zab (o2 dIx (mls (Zab (o2 dPow (c (.int 10)) (c (.int 6))) (Zab (o1 dNeg (o2 dPow (c (.int 10)) (c (.int 6)))) anil))) (o2 dMod (v 2) (c (.int 2)))) (Zab (c (.int 0)) anil))))) (o2 dMod (on Zam (Zab (v 0) (Zab (o2 dAdd (c (.int 60)) (v 1)) anil))) (c (.int 4))))))
def Zbb:List D→Res D:=fn 6
  (sq (st 3 (mls (Zab (on ZaL (Zab (v 0) (Zab (v 1) anil))) (Zab (on ZaL (Zab (v 0) (Zab (o2 dAdd (v 1) (c (.int 1))) anil))) anil))))
  (sq (st 4 (on bTup (Zab (comp (r1 (Zab (v 2) anil)) 1 [1,0] (gN 0) yes (on ZaL (Zab (v 2) (Zab (o2 dAdd (o2 dAdd (v 1) (c (.int 4))) (v 0)) anil)))) anil)))
  (sq (st 5 (on bMax (Zab (c (.int 1)) (Zab (on bAbs (Zab (on ZaL (Zab (v 0) (Zab (o2 dAdd (v 1) (c (.int 2))) anil))) anil)) anil))))
  (ret (mtp (Zab (o2 dIx (v 3) (c (.int 0))) (Zab (o2 dIx (v 3) (c (.int 1))) (Zab (v 5) (Zab (on bMax (Zab (c (.int 1)) (Zab (on bAbs (Zab (on ZaL (Zab (v 0) (Zab (o2 dAdd (v 1) (c (.int 3))) anil))) anil)) anil))) (Zab (v 4) anil))))))))))
def ZaM:List D→Res D:=fn 2
  (sq (whl fuel (trb (o2 dNe (v 1) (c (.int 0))))
  (par 0 1 (v 1) (o2 dMod (v 0) (v 1))))
  (ret (on bAbs (Zab (v 0) anil))))
def ZbZ:List D→Res D:=fn 4
  (sq (st 3 (o2 dAdd (on Zam (Zab (v 0) (Zab (v 1) anil))) (o2 dShl (on Zam (Zab (v 0) (Zab (o2 dAdd (v 1) (c (.int 1))) anil))) (c (.int 31)))))
  (ret (o2 dMod (o2 dAdd (o2 dAdd (v 3) (o2 dShl (on Zam (Zab (v 0) (Zab (o2 dAdd (v 1) (c (.int 2))) anil))) (c (.int 62)))) (o2 dShl (on Zam (Zab (v 0) (Zab (o2 dAdd (v 1) (c (.int 3))) anil))) (c (.int 93)))) (v 2))))
def ZaC:List D→Res D:=fn 6
  (sq (st 2 (o2 dIx (mls (Zab (c (.int 21)) (Zab (o2 dPow (c (.int 10)) (c (.int 6))) (Zab (o2 dPow (c (.int 10)) (c (.int 30))) anil)))) (o2 dMod (on Zam (Zab (v 0) (Zab (v 1) anil))) (c (.int 3)))))
  (sq (st 3 (o2 dAdd (o2 dSub (on ZbZ (Zab (v 0) (Zab (o2 dAdd (v 1) (c (.int 1))) (Zab (o2 dSub (o2 dMul (c (.int 2)) (v 2)) (c (.int 1))) anil)))) (v 2)) (c (.int 1))))
  (sq (st 4 (o2 dAdd (c (.int 1)) (on ZbZ (Zab (v 0) (Zab (o2 dAdd (v 1) (c (.int 5))) (Zab (o2 dIx (mls (Zab (c (.int 1)) (Zab (c (.int 30)) (Zab (o2 dSub (v 2) (c (.int 1))) anil)))) (o2 dMod (on Zam (Zab (v 0) (Zab (o2 dAdd (v 1) (c (.int 9))) anil))) (c (.int 3)))) anil))))))
  (sq (st 5 (on ZaM (Zab (v 3) (Zab (v 4) anil))))
  (ret (mtp (Zab (o2 dDiv (v 3) (v 5)) (Zab (o2 dDiv (v 4) (v 5)) anil))))))))
def Zb3:List D→Res D:=fn 4
  (sq (st 2 (on ZaC (Zab (v 0) (Zab (v 1) anil))))
  (sq (ifs (trb (chain dLe dLe (c (.int 0)) (o2 dIx (v 2) (c (.int 0))) (o2 dIx (v 2) (c (.int 1)))))
  (ret (v 2))
  nop)
  (sq (st 3 (on ZaM (Zab (o2 dMod (o2 dIx (v 2) (c (.int 0))) (o2 dIx (v 2) (c (.int 1)))) (Zab (o2 dIx (v 2) (c (.int 1))) anil))))
  (ret (mtp (Zab (o2 dDiv (o2 dMod (o2 dIx (v 2) (c (.int 0))) (o2 dIx (v 2) (c (.int 1)))) (v 3)) (Zab (o2 dDiv (o2 dIx (v 2) (c (.int 1))) (v 3)) anil)))))))
def Zbg:List D→Res D:=fn 3
  (sq (st 1 (o2 dIx (mls (Zab (c (.int 1)) (Zab (c (.int 2)) (Zab (c (.int 4)) (Zab (c (.int 8)) (Zab (c (.int 16)) anil)))))) (o2 dMod (on Zam (Zab (v 0) (Zab (c (.int 50)) anil))) (c (.int 5)))))
  (sq (st 2 (o2 dIx (mls (Zab (c (.int 1)) (Zab (c (.int 2)) (Zab (c (.int 4)) (Zab (c (.int 8)) (Zab (c (.int 16)) anil)))))) (o2 dMod (on Zam (Zab (v 0) (Zab (c (.int 51)) anil))) (c (.int 5)))))
  (ret (comp (r1 (Zab (v 1) anil)) 1 [2,0] (gN 0) yes (comp (r1 (Zab (v 1) anil)) 1 [1,0,2] (gN 0) yes (on ZaC (Zab (v 3) (Zab (o2 dAdd (c (.int 200)) (o2 dMul (c (.int 10)) (o2 dAdd (o2 dMul (v 1) (v 2)) (v 0)))) anil))))))))
def ZbI:List D→Res D:=fn 1
  (ret (mls (Zab (on (bIsO tabO) (Zab (v 0) (Zab (c (.cls "Plain")) anil))) (Zab (on (bIsO tabO) (Zab (v 0) (Zab (c (.cls "Shaded")) anil))) (Zab (on (bIsO tabO) (Zab (v 0) (Zab (c (.cls "Patterned")) anil))) (Zab (on (bIsO tabO) (Zab (v 0) (Zab (c (.cls "Glass")) anil))) anil))))))
def ZbD:List D→Res D:=fn 6
  (sq (ifs (bOr (bNot (trb (on (bIsO tabO) (Zab (v 0) (Zab (c (.cls "Thing")) anil))))) (trb (o2 dNe (on ZbI (Zab (v 0) anil)) (comp (r1 (Zab (c (.int 4)) anil)) 1 [1] (gN 0) yes (o2 dEq (v 0) (v 1))))))
  (ret (c (.bl false)))
  nop)
  (sq (ifs (bOr (trb (o2 dNe (o1 (dFld objs "triangle") (v 0)) (v 2))) (bAnd (trb (o2 dIn (v 1) (mtp (Zab (c (.int 0)) (Zab (c (.int 3)) anil))))) (trb (o2 dNe (o1 (dFld objs "colour") (v 0)) (v 3)))))
  (ret (c (.bl false)))
  nop)
  (ret (eAnd (eOr (o2 dNe (v 1) (c (.int 2))) (o2 dEq (o1 (dFld objs "pattern") (v 0)) (v 4))) (eOr (o2 dNe (v 1) (c (.int 3))) (o2 dEq (o1 (dFld objs "part") (v 0)) (v 5)))))))
def Zcg:List D→Res D:=fn 1
  (ifs (bNot (trb (on bIsi (Zab (v 0) (Zab (c (.ty "str")) anil)))))
  badS
  nop)
def Zb4:List D→Res D:=fn 3
  (grp 1 2 0 (trb (o2 dEq (v 2) (c (.str "/")))))
def Zba:List D→Res D:=fn 1
  (sq (ifs (bOr (trb (o2 dEq (v 0) (c (.str "")))) (trb (o2 dGt (on Zlg (Zab (v 0) anil)) (c (.int 30)))))
  (ret (c (.bl false)))
  nop)
  (sq (ifs (bAnd (trb (sD Zgr (v 0) (c (.str "0")))) (trb (o2 dNe (v 0) (c (.str "0")))))
  (ret (c (.bl false)))
  nop)
  (ret (on bAll (Zab (comp (ivT (v 0)) 1 [] (gN 0) yes (o2 dInT (v 0) (c (.str "0123456789")))) anil)))))
def ZaK:List D→Res D:=fn 2
  (sq (st 1 (ife (trb (sD Zgr (v 0) (c (.str "-")))) (cutT (v 0) (pso (c (.int 1))) pno) (v 0)))
  (sq (ifs (bOr (bNot (trb (on Zba (Zab (v 1) anil)))) (trb (o2 dEq (v 0) (c (.str "-0")))))
  badS
  nop)
  (ret (on ZkW (Zab (v 0) anil)))))
def Zbr:List D→Res D:=fn 2
  (sq (ifs (trb (o2 dLt (on bLen (Zab (v 0) anil)) (c (.int 4))))
  badS
  nop)
  (sq (st 1 (comp (iv (v 0)) 1 [] (gN 0) yes (on ZaK (Zab (v 0) anil))))
  (ret (mtp (Zab (o2 dIx (v 1) (c (.int 0))) (Zab (o2 dIx (v 1) (c (.int 1))) (Zab (o2 dIx (v 1) (c (.int 2))) (Zab (o2 dIx (v 1) (c (.int 3))) (Zab (on bTup (Zab (cut (v 1) (pso (c (.int 4))) pno) anil)) anil)))))))))
def ZaB:List D→Res D:=fn 3
  (sq (ifs (trb (o2 ZiZ (c (.str "/")) (v 0)))
  (ret (mtp (Zab (on ZaK (Zab (v 0) anil)) (Zab (c (.int 1)) anil))))
  nop)
  (sq (st 1 (sD ZjM (v 0) (c (.str "/"))))
  (sq (st 2 (mtp (Zab (on ZaK (Zab (o2 dIx (v 1) (c (.int 0))) anil)) (Zab (on ZaK (Zab (o2 dIx (v 1) (c (.int 2))) anil)) anil))))
  (sq (ifs (bOr (trb (o2 dEq (o2 dIx (v 2) (c (.int 1))) (c (.int 1)))) (bNot (trb (on ZaD (Zab (v 2) anil)))))
  badS
  nop)
  (ret (v 2))))))
def Zbi:List D→Res D:=fn 1
  (ret (Zi4 (iv (sD ZfH (v 0) (c (.str ";")))) 1 [] (gN 0) yes (comp (iv (sD ZfH (v 0) (c (.str ",")))) 1 [] (gN 0) yes (on ZaB (Zab (v 0) anil)))))
def ZcG:List D→Res D:=fn 2
  (sq (ifs (bAnd (trb (o2 dEq (cut (v 0) pno (pso (c (.int 1)))) (mls (Zab (c (.str "plain")) anil)))) (trb (o2 dEq (on bLen (Zab (v 0) anil)) (c (.int 2)))))
  (ret (make "Plain" Zdt (Zab (v 1) (Zab (on ZaB (Zab (o2 dIx (v 0) (c (.int 1))) anil)) anil))))
  nop)
  (sq (ifs (trb (o2 dEq (v 0) (mls (Zab (c (.str "shaded")) anil))))
  (ret (make "Shaded" Zcj (Zab (v 1) anil)))
  nop)
  (sq (ifs (bAnd (trb (o2 dEq (cut (v 0) pno (pso (c (.int 1)))) (mls (Zab (c (.str "patterned")) anil)))) (trb (o2 dEq (on bLen (Zab (v 0) anil)) (c (.int 2)))))
  (ret (make "Patterned" Za7 (Zab (v 1) (Zab (on Zbi (Zab (o2 dIx (v 0) (c (.int 1))) anil)) anil))))
  nop)
  (sq (ifs (bAnd (trb (o2 dEq (cut (v 0) pno (pso (c (.int 1)))) (mls (Zab (c (.str "glass")) anil)))) (trb (o2 dEq (on bLen (Zab (v 0) anil)) (c (.int 3)))))
  (ret (make "Glass" Zdl (Zab (v 1) (Zab (on ZaB (Zab (o2 dIx (v 0) (c (.int 1))) anil)) (Zab (on ZaB (Zab (o2 dIx (v 0) (c (.int 2))) anil)) anil)))))
  nop)
  badS))))
def ZbP:List D→Res D:=fn 2
  (sq (drp (on Zcg (Zab (v 0) anil)))
  (sq (st 1 (on Zb4 (Zab (sD ZfH (v 0) (c (.str " "))) anil)))
  (sq (ifs (trb (o2 dNe (on bLen (Zab (v 1) anil)) (c (.int 4))))
  badS
  nop)
  (ret (on ZcG (Zab (o2 dIx (v 1) (c (.int 0))) (Zab (on bTup (Zab (Zi4 (iv (cut (v 1) (pso (c (.int 1))) pno)) 1 [] (gN 0) yes (on Zbr (Zab (v 0) anil))) anil)) anil)))))))
def ZaI:List D→Res D:=fn 3
  (sq (stO 1 (mls anil))
  (sq (st 2 (on bAbs (Zab (v 0) anil)))
  (sq (whl fuel (trb (o2 dGe (v 2) (o2 dPow (c (.int 10)) (c (.int 60)))))
  badS)
  (sq (app 1 (on bStr (Zab (v 2) anil)))
  (sq (ifs (trb (o2 dLt (v 0) (c (.int 0))))
  (app 1 (c (.str "-")))
  nop)
  (ret (joinRev "" 1)))))))
def Zcf:List D→Res D:=fn 1
  (ret (o2 dAdd (on bLst (Zab (cut (v 0) pno (pso (c (.int 4)))) anil)) (on bLst (Zab (o2 dIx (v 0) (c (.int 4))) anil))))
def Zbs:List D→Res D:=fn 1
  (ret (sD ZgP (c (.str " ")) (o2 dAdd (mls (Zab (c (.str "/")) anil)) (comp (iv (on Zcf (Zab (v 0) anil))) 1 [] (gN 0) yes (on ZaI (Zab (v 0) anil))))))
def ZbW:List D→Res D:=fn 1
  (ret (c (.str "glass")))
def Za9:List D→Res D:=fn 1
  (ret (c (.str "patterned")))
def ZbX:List D→Res D:=fn 1
  (ret (c (.str "plain")))
def Zbz:List D→Res D:=fn 1
  (ret (c (.str "shaded")))
def Zgj:List (Str×(List D→Res D)):=[("Plain", ZbX),("Shaded", Zbz),("Patterned", Za9),("Glass", ZbW)]
def Zau:List D→Res D:=fn 1
  (sq (ifs (trb (o2 dEq (o2 dIx (v 0) (c (.int 1))) (c (.int 1))))
  (ret (on ZaI (Zab (o2 dIx (v 0) (c (.int 0))) anil)))
  nop)
  (ret (o2 dAdd (o2 dAdd (on ZaI (Zab (o2 dIx (v 0) (c (.int 0))) anil)) (c (.str "/"))) (on ZaI (Zab (o2 dIx (v 0) (c (.int 1))) anil)))))
def Zbh:List D→Res D:=fn 1
  (ret (sD ZgP (c (.str ";")) (comp (iv (v 0)) 1 [] (gN 0) yes (sD ZgP (c (.str ",")) (comp (iv (v 0)) 1 [] (gN 0) yes (on Zau (Zab (v 0) anil)))))))
def ZbK:List D→Res D:=fn 2
  (sq (st 1 (meth Zgj "word" (v 0) anil))
  (sq (ifs (trb (o2 dEq (v 1) (c (.str "plain"))))
  (ret (mls (Zab (v 1) (Zab (on Zau (Zab (o1 (dFld objs "colour") (v 0)) anil)) anil))))
  nop)
  (sq (ifs (trb (o2 dEq (v 1) (c (.str "patterned"))))
  (ret (mls (Zab (v 1) (Zab (on Zbh (Zab (o1 (dFld objs "pattern") (v 0)) anil)) anil))))
  nop)
  (sq (ifs (trb (o2 dEq (v 1) (c (.str "glass"))))
  (ret (mls (Zab (v 1) (Zab (on Zau (Zab (o1 (dFld objs "colour") (v 0)) anil)) (Zab (on Zau (Zab (o1 (dFld objs "part") (v 0)) anil)) anil)))))
  nop)
  (ret (mls (Zab (v 1) anil)))))))
def Za8:List D→Res D:=fn 1
  (ret (sD ZgP (c (.str " ")) (o2 dAdd (on ZbK (Zab (v 0) anil)) (comp (iv (o1 (dFld objs "triangle") (v 0))) 1 [] (gN 0) yes (on Zbs (Zab (v 0) anil))))))
def ZbM:List D→Res D:=fn 9
  (sq (st 7 (on Za8 (Zab (v 0) anil)))
  (sq (ifs (bOr (bNot (trb (on bIsi (Zab (v 7) (Zab (c (.ty "str")) anil))))) (trb (o2 dNe (v 7) (v 2))))
  (ret (c (.bl false)))
  nop)
  (sq (st 8 (on ZbP (Zab (v 2) anil)))
  (sq (ifs (bNot (trb (on ZbD (Zab (v 8) (Zab (v 1) (Zab (v 3) (Zab (v 4) (Zab (v 5) (Zab (v 6) anil)))))))))
  (ret (c (.bl false)))
  nop)
  (ret (eAnd (o2 dEq (on Za8 (Zab (v 8) anil)) (v 2)) (o2 dEq (on Za8 (Zab (v 0) anil)) (v 2))))))))
def ZcC:List D→Res D:=fn 4
  (sq (st 2 (v 0))
  (sq (for_ (iv (v 1)) (gN 3)
  (st 2 (o2 dAdd (o2 dAdd (v 2) (c (.str " / "))) (sD ZgP (c (.str " ")) (comp (iv (o2 dAdd (on bLst (Zab (cut (v 3) pno (pso (c (.int 4)))) anil)) (on bLst (Zab (o2 dIx (v 3) (c (.int 4))) anil)))) 1 [] (gN 0) yes (on bStr (Zab (v 0) anil)))))))
  (ret (v 2))))
def Za0:List D→Res D:=fn 1
  (sq (ifs (trb (o2 dEq (o2 dIx (v 0) (c (.int 1))) (c (.int 1))))
  (ret (on bStr (Zab (o2 dIx (v 0) (c (.int 0))) anil)))
  nop)
  (ret (o2 dAdd (o2 dAdd (on bStr (Zab (o2 dIx (v 0) (c (.int 0))) anil)) (c (.str "/"))) (on bStr (Zab (o2 dIx (v 0) (c (.int 1))) anil)))))
def Zoa:List D→Res D:=fn 11
  (sq (for_ (iv (o2 dAdd (mls (Zab (c (.int 0)) (Zab (c (.int 1)) anil))) (cut (v 0) pno (pso (c (.int 6)))))) (gN 1)
  (sq (st 2 (on ZaC (Zab (v 1) (Zab (c (.int 160)) anil))))
  (sq (st 3 (o2 dIx (mls (Zab (mtp (Zab (c (.int 0)) (Zab (c (.int 1)) anil))) (Zab (mtp (Zab (c (.int 1)) (Zab (c (.int 1)) anil))) (Zab (on Zb3 (Zab (v 1) (Zab (c (.int 170)) anil))) anil)))) (o2 dMod (on Zam (Zab (v 1) (Zab (c (.int 46)) anil))) (c (.int 3)))))
  (sq (st 4 (on Zbg (Zab (v 1) anil)))
  (sq (ifs (trb (o2 dNe (on Zau (Zab (v 2) anil)) (on Za0 (Zab (v 2) anil))))
  (ret (c (.bl false)))
  nop)
  (sq (st 5 (sD ZgP (c (.str ";")) (comp (iv (v 4)) 1 [] (gN 0) yes (sD ZgP (c (.str ",")) (comp (iv (v 0)) 1 [] (gN 0) yes (on Za0 (Zab (v 0) anil)))))))
  (for_ (r1 (Zab (c (.int 4)) anil)) (gN 6)
  (sq (st 7 (o2 dAdd (o2 dIx (mls (Zab (c (.int 0)) (Zab (c (.int 1)) (Zab (c (.int 2)) (Zab (c (.int 0)) anil))))) (v 6)) (o2 dMod (on Zam (Zab (v 1) (Zab (o2 dAdd (c (.int 52)) (v 6)) anil))) (o2 dIx (mls (Zab (c (.int 4)) (Zab (c (.int 3)) (Zab (c (.int 2)) (Zab (c (.int 4)) anil))))) (v 6)))))
  (sq (st 8 (on bTup (Zab (comp (r1 (Zab (c (.int 3)) anil)) 1 [7,1] (gN 0) yes (on Zbb (Zab (v 2) (Zab (o2 dMul (c (.int 8)) (v 0)) (Zab (v 1) anil))))) anil)))
  (sq (st 9 (o2 dIx (mls (Zab (o2 dAdd (c (.str "plain ")) (on Za0 (Zab (v 2) anil))) (Zab (c (.str "shaded")) (Zab (o2 dAdd (c (.str "patterned ")) (v 5)) anil)))) (o2 dMod (v 6) (c (.int 3)))))
  (sq (st 10 (ife (trb (o2 dEq (v 6) (c (.int 1)))) (make "Shaded" Zcj (Zab (v 8) anil)) (make "Plain" Zdt (Zab (v 8) (Zab (v 2) anil)))))
  (sq (ifs (trb (o2 dEq (v 6) (c (.int 2))))
  (st 10 (make "Patterned" Za7 (Zab (v 8) (Zab (v 4) anil))))
  nop)
  (sq (ifs (trb (o2 dEq (v 6) (c (.int 3))))
  (sq (st 10 (make "Glass" Zdl (Zab (v 8) (Zab (v 2) (Zab (v 3) anil)))))
  (st 9 (o2 dAdd (o2 dAdd (o2 dAdd (c (.str "glass ")) (on Za0 (Zab (v 2) anil))) (c (.str " "))) (on Za0 (Zab (v 3) anil)))))
  nop)
  (ifs (bNot (trb (on ZbM (Zab (v 10) (Zab (v 6) (Zab (on ZcC (Zab (v 9) (Zab (v 8) anil))) (Zab (v 8) (Zab (v 2) (Zab (v 4) (Zab (v 3) anil))))))))))
  (ret (c (.bl false)))
  nop))))))))))))))
  (ret (c (.bl true))))
theorem Zbk{Φ:D→Prop}{cc k:Int}(hk:0≤k∧k≤4000)(h:∀r:Int,0≤r∧r<2147483648→Φ (.int r)):Tl (Zam [.int cc,.int k]) Φ:=by
 unfold Zam
 walk_at "w"
 refine Zg1 (fun _=>?_) (fun _=>?_)
 ·walk_at "w"
  refine Zg1 (fun _=>?_) (fun _=>?_)
  ·walk_at "w"
   refine Zg1 (fun _=>?_) (fun _=>?_)
   ·walk_at "w"
    exact h _ (by omega)
   ·walk_at "w"
    exact h _ (by omega)
  ·walk_at "w"
   exact h _ (by omega)
 ·walk_at "w"
  exact h _ (by omega)
def cor(x y w h:Int)(vs:List Int):D:=.tup [.int x,.int y,.int w,.int h,.tup (vs.map .int)]
def Bd(x:Int):Prop:=-1000000≤x∧x≤1000000
theorem Zm0{ys:List D}{n:Nat}(hl:ys.length=n)(h:∀y∈ys,∃v:Int,y=.int v∧Bd v):∃vs:List Int,ys=vs.map .int∧vs.length=n∧∀v∈vs,Bd v:=by
 induction ys generalizing n with
 | nil=>exact ⟨[],rfl,hl,fun _ h=>(List.not_mem_nil h).elim⟩
 | cons y r ih =>
  obtain ⟨v,rfl,hv⟩:=h y List.mem_cons_self
  obtain ⟨vs,rfl,l,hb⟩:=ih (n:=r.length) rfl fun z hz=>h z (List.mem_cons_of_mem _ hz)
  refine ⟨v::vs,rfl,by simpa using hl,fun u hu=>?_⟩
  rcases List.mem_cons.mp hu with rfl | hu
  ·exact hv
  ·exact hb u hu
theorem Zqb{Φ:List D→Prop}{g:MG}{e:ME}{ρ:Ev}{n:Nat}(h:∀k:Nat,k<n→Tl (g (.int k) ρ) fun ρ1=>Tl (e ρ1) fun y=>∃v:Int,y=.int v∧Bd v)(q:∀vs:List Int,vs.length=n→(∀v∈vs,Bd v)→Φ (vs.map .int)):Tl (Zao g yes e ρ (Zbt 0 n)) Φ:=by
 have hl:(Zbt 0 n).length=n:=by unfold Zbt;simp
 refine w_all (fun _ y=>∃v:Int,y=.int v∧Bd v) (fun x hx=>?_) fun ys l hp=>?_
 ·obtain ⟨k,hk,rfl⟩:=mem_range hx
  exact h k hk
 ·obtain ⟨vs,rfl,l2,hb⟩:=Zm0 (n:=n) (l.trans hl) fun y hy=>by
   obtain ⟨i,hi,rfl⟩:=List.mem_iff_getElem.mp hy
   exact hp i _ _ (List.getElem?_eq_getElem (by omega)) (List.getElem?_eq_getElem hi)
  exact q vs l2 hb
theorem Zo9{Φ:Fl→Prop}{g:MG}{k:MS}{ρ:Ev}{enc:Nat→D}{n:Nat}(I:Nat→Ev→Prop)(h0:I 0 ρ)(h:∀j,j<n→∀ρ,I j ρ→Tl (g (enc j) ρ) fun ρ1=>Tl (k ρ1) fun f=>∃ρ2,f=.nx ρ2∧I (j+1) ρ2)(hd:∀ρ,I n ρ→Φ (.nx ρ)):Tl (Zb6 g k ((List.range n).map enc) ρ) Φ:=by
 refine Zmz (fun p ρ=>I p.length ρ) h0 (fun p x r e ρ i=>?_) fun ρ i=>?_
 ·have l:p.length<n:=by
   have:=congrArg List.length e
   simp at this
   omega
  have ex:x=enc p.length:=by
   have z:=congrArg (fun l=>l[p.length]?) e
   simp [l] at z
   exact z.symm
  subst ex
  obtain ⟨ρ1,e1,f,e2,ρ2,rfl,i2⟩:=h _ l ρ i
  refine ⟨ρ1,e1,_,e2,ρ2,rfl,?_⟩
  simpa using i2
 ·simp at i
  exact hd ρ i
end My
namespace Mt
theorem ZkN{x y:Int}(h:y<0):(x.fmod y).natAbs<y.natAbs:=by
 rw [Int.fmod_eq_emod]
 have a:=Int.emod_nonneg x (show y≠0 by omega)
 have b:=Int.emod_lt x (show y≠0 by omega)
 by_cases hd:y∣x
 ·have e:x%y=0:=Int.emod_eq_zero_of_dvd hd
  rw [if_pos (.inr hd),e];omega
 ·rw [if_neg (by omega)];omega
theorem Zlp(x y:Int):Int.gcd y (x.fmod y)=Int.gcd x y:=by
 have e:x.fmod y=x+y*(-(x.fdiv y)):=by rw [Int.fmod_def,Int.mul_neg,Int.sub_eq_add_neg]
 rw [e,Int.gcd_comm,Int.gcd_add_mul_left_left]
end Mt
namespace My
open PySem Dl
theorem w_modN{Φ:D→Prop}{x y:Int}(hy:y<0)(h:Φ (.int (x.fmod y))):Tl (dMod (.int x) (.int y)) Φ:=by
 refine Zay ?_ h
 show iMod x y=_
 unfold iMod
 rw [if_neg (by omega),if_neg (by omega)]
theorem ZdN{Φ:D→Prop}{ns:List Int}(h:Φ (.int (Mt.gcdL 0 ns))):Tl (ZaU [.tup (ns.map .int)]) Φ:=by
 unfold ZaU
 walk_at "w"
 refine Zmz (fun p ρ=>∃(p':List Int) (v2 v3 v4:Cl),p=p'.map .int∧ρ=[.im (.tup (ns.map .int)),.im (.int (Mt.gcdL 0 p')),v2,v3,v4]) ⟨[],_,_,_,rfl,rfl⟩ ?_ ?_
 ·rintro p x r hx ρ ⟨p',v2,v3,v4,rfl,rfl⟩
  obtain ⟨n,rfl⟩ : ∃n:Int,x=.int n:=by
   have:x∈ns.map .int:=by rw [hx];simp
   obtain ⟨n,_,rfl⟩:=List.mem_map.mp this
   exact ⟨n,rfl⟩
  walk_at "w"
  refine w_wh (fun ρ=>∃(f m:Nat) (v4:Cl),ρ=[.im (.tup (ns.map .int)),.im (.int f),.im (.int n),.im (.int m),v4]∧Nat.gcd f m=Nat.gcd (Mt.gcdL 0 p') n.natAbs) (Zgw 3) ⟨_,_,_,rfl,rfl⟩ (Zes _ _) ?_
  rintro ρ ⟨f,m,v4,rfl,e⟩
  walk_at "w"
  refine ⟨fun hb=>?_,fun hb=>?_⟩
  ·have hm:m≠0:=by simpa using hb
   walk_at "w"
   refine ⟨_,rfl,⟨m,f%m,_,rfl,?_⟩,?_⟩
   ·rw [←e,Mt.ZlY]
   ·have:=Nat.mod_lt f (Nat.pos_of_ne_zero hm)
    simp [Zgw,absC]
    omega
  ·have hm:m=0:=by simpa using hb
   subst hm
   rw [Nat.gcd_zero_right] at e
   have e2:Mt.gcdL 0 (p'++[n])=Nat.gcd (Mt.gcdL 0 p') n.natAbs:=by
    have key:∀(l:List Int) (g:Nat),Mt.gcdL g (l++[n])=Nat.gcd (Mt.gcdL g l) n.natAbs:=by
     intro l
     induction l with
     | nil=>exact fun g=>rfl
     | cons y l ih=>exact fun g=>ih _
    exact key p' 0
   exact ⟨_,rfl,p'++[n],.im (.int n),.im (.int ((0:Nat):Int)),v4,by simp,by rw [e2,←e]⟩
 ·rintro ρ ⟨p',v2,v3,v4,hp,rfl⟩
  walk_at "w"
  have:ns=p':=ZiN hp
  rw [←this]
  exact h
theorem Zg8{Φ:D→Prop}{a b:Int}(h:Φ (.int (Int.gcd a b))):Tl (ZaM [.int a,.int b]) Φ:=by
 unfold ZaM
 walk_at "w"
 refine w_wh (fun ρ=>∃x y:Int,ρ=[.im (.int x),.im (.int y)]∧Int.gcd x y=Int.gcd a b) (Zgw 1) ⟨a,b,rfl,rfl⟩ (Zes _ _) ?_
 rintro ρ ⟨x,y,rfl,e⟩
 walk_at "w"
 refine ⟨fun hb=>?_,fun hb=>?_⟩
 ·have hy:y≠0:=by simpa using hb
  rcases Int.lt_or_gt_of_ne hy with hn | hp
  ·walk_at "w"
   refine w_modN hn ?_
   refine ⟨_,rfl,⟨y,x.fmod y,rfl,by rw [Mt.Zlp];exact e⟩,?_⟩
   have:=Mt.ZkN (x:=x) hn
   simp [Zgw,absC]
   exact this
  ·walk_at "w"
   refine ⟨_,rfl,⟨y,x%y,rfl,by rw [Mt.Zkk];exact e⟩,?_⟩
   have r0:=Int.emod_nonneg x hy
   have r1:=Int.emod_lt_of_pos x hp
   simp [Zgw,absC]
   omega
 ·have hy:y=0:=by simpa using hb
  subst hy
  walk_at "w"
  have e':x.natAbs=Int.gcd a b:=by rw [←e,Int.gcd_zero_right]
  rw [e']
  exact h
def frD(q:Rat):D:=.tup [.int q.num,.int (q.den:Int)]
theorem den1(q:Rat):0<(q.den:Int):=by have:=q.den_pos;omega
def rowD(w:Nat)(R:Nat→Rat):D:=.lst ((List.range w).map fun j=>frD (R j))
def patD(h w:Nat)(P:Nat→Nat→Rat):D:=.lst ((List.range h).map fun i=>rowD w (P i))
def Ct(n:Nat):Prop:=n=1∨n=2∨n=4∨n=8∨n=16
theorem Ct.le{n:Nat}(h:Ct n):1≤n∧n≤16:=by unfold Ct at h;omega
theorem ZkE{Φ:D→Prop}{n:Nat}(hn:Ct n)(h:Φ (.bl false)):Tl (dNin (.int (n:Int)) (.tup [.int 1,.int 2,.int 4,.int 8,.int 16])) Φ:=by
 refine Zay ?_ h
 rcases hn with rfl | rfl | rfl | rfl | rfl<;>rfl
theorem Zdy{Φ:D→Prop}{n:Int}(h:Φ (.bl true)):Tl (Za5 [.int n]) Φ:=by
 unfold Za5
 walk_at "w"
 exact h
theorem ZbY{Φ:D→Prop}{q:Rat}(h:Φ (.bl true)):Tl (ZaD [frD q]) Φ:=by
 have d:=den1 q
 unfold ZaD frD
 walk_at "w"
 refine Zdy ?_
 walk_at "w"
 refine Zdy ?_
 walk_at "w"
 refine ZdN (ns:=[q.num,(q.den:Int)]) ?_
 rw [Mt.Zlx,show Int.gcd q.num (q.den:Int)=1 by show Nat.gcd q.num.natAbs (q.den:Int).natAbs=1;rw [Int.natAbs_natCast];exact q.reduced]
 walk_at "w"
 exact h
theorem Zfi{Φ:D→Prop}{h w:Nat}{P:Nat→Nat→Rat}(hh:Ct h)(hw:Ct w)(q:Φ .non):Tl (ZaY [patD h w P]) Φ:=by
 have h1:=hh.le
 have w1:=hw.le
 have hp:patD h w P=.lst (rowD w (P 0)::((List.range (h - 1)).map fun i=>rowD w (P (i+1)))):=by
  unfold patD
  obtain ⟨k,rfl⟩ : ∃k,h=k+1:=⟨h - 1,by omega⟩
  rw [List.range_succ_eq_map,List.map_cons,List.map_map]
  rfl
 unfold ZaY
 unfold patD
 walk_at "w"
 rw [List.length_map,List.length_range]
 refine ZkE hh ?_
 walk_at "w"
 refine Zo9 (fun j ρ=>∃v1:Cl,ρ=[.im (patD h w P),v1]) ⟨_,rfl⟩ ?_ ?_
 ·rintro j hj ρ ⟨v1,rfl⟩
  unfold rowD
  walk_at "w"
  rw [List.length_map,List.length_range]
  refine ZkE hw ?_
  walk_at "w"
  rw [hp]
  walk_at "w"
  unfold rowD
  walk_at "w"
  rw [List.length_map,List.length_range,List.length_map,List.length_range]
  walk_at "w"
  refine ⟨by rw [List.length_map,List.length_range];omega,?_⟩
  refine ZbL (fun _:Nat=>D.bl true) (fun k hk=>?_) ?_
  ·walk_at "w"
   exact ZbY rfl
  walk_at "w"
  refine Zgt (fun y hy=>?_) ?_
  ·obtain ⟨_,_,rfl⟩:=List.mem_map.mp hy
   rfl
  walk_at "w"
  exact ⟨_,rfl,_,rfl⟩
 ·rintro ρ ⟨v1,rfl⟩
  walk_at "w"
  exact q
theorem Zmq{X:Type} [Inhabited X] {enc:X→D} {Q:X→Prop}:∀{ys:List D},(∀y∈ys,∃x,y=enc x∧Q x)→∃f:Nat→X,ys=(List.range ys.length).map (fun i=>enc (f i))∧∀i,i<ys.length→Q (f i):=by
 intro ys h
 have key:∀i,∃x:X,∀hi:i<ys.length,ys[i]=enc x∧Q x:=fun i=>by
  by_cases hi:i<ys.length
  ·obtain ⟨x,h1,h2⟩:=h ys[i] (List.getElem_mem hi)
   exact ⟨x,fun _=>⟨h1,h2⟩⟩
  ·exact ⟨default,fun z=>absurd z hi⟩
 refine ⟨fun i=>Classical.choose (key i),?_,fun i hi=>(Classical.choose_spec (key i) hi).2⟩
 apply List.ext_getElem?
 intro i
 by_cases hi:i<ys.length
 ·rw [List.getElem?_eq_getElem hi,List.getElem?_map,List.getElem?_range hi,(Classical.choose_spec (key i) hi).1]
  rfl
 ·rw [List.getElem?_eq_none (by omega),List.getElem?_eq_none (by simp;omega)]
theorem ZeX(k:Nat)(q:Rat):plain (k+1) (frD q)=true:=by
 show ZaF k [.int q.num,.int (q.den:Int)]=true
 cases k<;>rfl
theorem Zdi(k:Nat)(f:Nat→D)(hf:∀i,plain k (f i)=true):∀l:List Nat,ZaF k (l.map f)=true
 | []=>rfl
 | a::l=>by
  show (plain k (f a)&&ZaF k (l.map f))=true
  rw [hf,Zdi k f hf l]
  rfl
theorem Zj5(k w:Nat)(R:Nat→Rat):plain (k+2) (rowD w R)=true:=by
 show ZaF (k+1) _=true
 exact Zdi _ _ (fun j=>ZeX k (R j)) _
theorem Zjt(h w:Nat)(P:Nat→Nat→Rat):plain 50 (patD h w P)=true:=by
 show ZaF 49 _=true
 exact Zdi _ _ (fun i=>Zj5 47 w (P i)) _
structure Ck(x y w h:Int):Prop where
 x:Bd x
 y:Bd y
 w:1≤w∧w≤1000000
 h:1≤h∧h≤1000000
theorem Zhf{Φ:D→Prop}{vs:List Int}(hl:vs.length≤3)(h:Φ (.bl true)):Tl (ZbH [.tup (vs.map .int)]) Φ:=by
 unfold ZbH
 walk_at "w"
 rw [List.length_map]
 walk_at "w"
 refine ⟨by omega,?_⟩
 refine ZbL (fun _:Int=>D.bl true) (fun k hk=>?_) ?_
 ·walk_at "w"
  exact Zdy rfl
 walk_at "w"
 refine Zgt (fun y hy=>?_) ?_
 ·obtain ⟨_,_,rfl⟩:=List.mem_map.mp hy
  rfl
 walk_at "w"
 exact h
theorem ZgC{Φ:D→Prop}{x y w h:Int}{vs:List Int}(hh:1≤h)(hl:vs.length≤3)(q:Φ (.bl true)):Tl (Zb9 [cor x y w h vs]) Φ:=by
 unfold Zb9 cor
 walk_at "w"
 rw [show cutL [D.int x,D.int y,D.int w,D.int h,D.tup (List.map D.int vs)] none (some 4)=[x,y,w,h].map D.int from rfl]
 refine ⟨by show (4:Nat)≤_;omega,?_⟩
 refine ZbL (fun _:Int=>D.bl true) (fun k hk=>?_) ?_
 ·walk_at "w"
  exact Zdy rfl
 walk_at "w"
 refine Zgt (fun y hy=>?_) ?_
 ·obtain ⟨_,_,rfl⟩:=List.mem_map.mp hy
  rfl
 walk_at "w"
 refine Zhf hl ?_
 walk_at "w"
 exact q
structure Tr(k:Nat)(T:D):Prop where
 ex:∃(ax ay aw ah bx bY bw bh cx cy cw ch:Int) (av bv cv:List Int),T=.tup [cor ax ay aw ah av,cor bx bY bw bh bv,cor cx cy cw ch cv]∧Ck ax ay aw ah∧Ck bx bY bw bh∧Ck cx cy cw ch ∧
  av.length=k∧bv.length=k∧cv.length=k∧(∀v∈av,Bd v)∧(∀v∈bv,Bd v)∧(∀v∈cv,Bd v)
theorem ZnJ{k:Nat}{T:D}(hk:k≤3)(h:Tr k T):Za2 [T]=.ok .non:=by
 obtain ⟨ax,ay,aw,ah,bx,bY,bw,bh,cx,cy,cw,ch,av,bv,cv,rfl,ca,cb,cc,la,lb,lc,_⟩:=h
 refine Tl.eq ?_
 unfold Za2
 walk_at "w"
 refine w_f1 ?_
 walk_at "w"
 refine ZgC ca.h.1 (by omega) ?_
 unfold cor
 walk_at "w"
 refine w_f1 ?_
 walk_at "w"
 refine ZgC cb.h.1 (by omega) ?_
 walk_at "w"
 refine w_f1 ?_
 walk_at "w"
 refine ZgC cc.h.1 (by omega) ?_
 walk_at "w"
 refine w_f0 ?_
 walk_at "w"
theorem Zny{k:Nat}{T:D}(h:Tr k T):ZaS [T]=.ok .non:=by
 obtain ⟨ax,ay,aw,ah,bx,bY,bw,bh,cx,cy,cw,ch,av,bv,cv,rfl,ca,cb,cc,la,lb,lc,_⟩:=h
 have h1:=ca.w.1
 have h2:=cb.w.1
 have h3:=cc.w.1
 refine Tl.eq ?_
 unfold ZaS cor
 walk_at "w"
 refine w_f1 ?_
 walk_at "w"
 refine w_f1 ?_
 walk_at "w"
 refine w_f1 ?_
 walk_at "w"
 refine w_f0 ?_
 walk_at "w"
theorem Zko(q:Rat):ZaX [frD q]=.ok .non:=by
 refine Tl.eq ?_
 unfold ZaX
 walk_at "w"
 refine ZbY ?_
 walk_at "w"
theorem ZkX{q:Rat}(h0:0≤q.num)(h1:q.num≤q.den):ZbJ [frD q]=.ok .non:=by
 refine Tl.eq ?_
 unfold ZbJ
 walk_at "w"
 refine ZbY ?_
 unfold frD
 walk_at "w"
theorem ZiK{k:Nat}{T:D}{n:Int}(h:Tr k T)(hn:n≤k):ZaV [T,.int n]=.ok .non:=by
 obtain ⟨ax,ay,aw,ah,bx,bY,bw,bh,cx,cy,cw,ch,av,bv,cv,rfl,ca,cb,cc,la,lb,lc,_⟩:=h
 refine Tl.eq ?_
 unfold ZaV cor
 walk_at "w"
theorem Zqv{Φ:D→Prop}{n:Nat}{m:ME}{ds:List D}(h:Tl (m (ev0 n ds)) Φ):Tl (fnR n m ds) Φ:=h
theorem ZkU{f:Str}{d:D}{k:MSi}{ρ:Ev}{fl:Fs}{e:ME}(he:e ρ=.ok d)(hd:noL d=true)(hn:(fl.map (·.1)).contains f=false)(hl:fl.length<100):Zh9 f e k ρ fl=k ρ (fl++[(f,d)]):=by
 unfold Zh9
 rw [he]
 show (if noL d=false∨(fl.map (·.1)).contains f=true∨100≤fl.length then Res.bad else k ρ (fl++[(f,d)]))=_
 rw [if_neg]
 rintro (z | z | z)
 ·rw [hd] at z;cases z
 ·rw [hn] at z;cases z
 ·omega
theorem ZqD{f:Str}{d:D}{k:MSi}{ρ:Ev}{fl:Fs}{e:ME}(he:e ρ=.ok d)(hd:ZhP d=true)(hn:(fl.map (·.1)).contains f=false)(hl:fl.length<100):ZkT f e k ρ fl=k ρ (fl++[(f,d)]):=by
 unfold ZkT
 rw [he]
 show (if ZhP d=false∨(fl.map (·.1)).contains f=true∨100≤fl.length then Res.bad else k ρ (fl++[(f,d)]))=_
 rw [if_neg]
 rintro (z | z | z)
 ·rw [hd] at z;cases z
 ·rw [hn] at z;cases z
 ·omega
theorem ZkM(ns:List Int):noLs (ns.map D.int)=true:=by
 induction ns with
 | nil=>rfl
 | cons n r ih=>show (noL (.int n)&&noLs (r.map D.int))=true;rw [ih];rfl
theorem Zia(x y w h:Int)(vs:List Int):noL (cor x y w h vs)=true:=by
 show (true&&(true&&(true&&(true&&(noLs (vs.map .int)&&true)))))=true
 rw [ZkM];rfl
theorem Zo4{k:Nat}{T:D}(h:Tr k T):noL T=true:=by
 obtain ⟨ax,ay,aw,ah,bx,bY,bw,bh,cx,cy,cw,ch,av,bv,cv,rfl,_⟩:=h
 show (noL (cor ax ay aw ah av)&&(noL (cor bx bY bw bh bv)&&(noL (cor cx cy cw ch cv)&&true)))=true
 rw [Zia,Zia,Zia];rfl
theorem Zj2(h w:Nat)(P:Nat→Nat→Rat):ZhP (patD h w P)=true:=by
 have key:∀l:List Nat,noLs (l.map fun j=>frD (P 0 j))=true→True:=fun _ _=>trivial
 have cell:∀(R:Nat→Rat) (l:List Nat),noLs (l.map fun j=>frD (R j))=true:=by
  intro R l
  induction l with
  | nil=>rfl
  | cons a l ih=>show (noL (frD (R a))&&noLs (l.map fun j=>frD (R j)))=true;rw [ih];rfl
 have rows:∀l:List Nat,ZeN (l.map fun i=>rowD w (P i))=true:=by
  intro l
  induction l with
  | nil=>rfl
  | cons a l ih =>
   show ((ZkK (rowD w (P a))).isSome&&ZeN (l.map fun i=>rowD w (P i)))=true
   rw [ih,Bool.and_true]
   show (if noLs ((List.range w).map fun j=>frD (P a j))=true then some _ else none).isSome=true
   rw [if_pos (cell _ _)]
   rfl
 exact rows _
theorem ZeO{d:D}{k:MSi}{ρ:Ev}{fl:Fs}{e:ME}(he:e ρ=.ok d):iDrp e k ρ fl=k ρ fl:=by
 unfold iDrp
 rw [he]
 rfl
theorem Ziu{g:List D→Fs→Res Fs}{a:MA}{ds:List D}{k:MSi}{ρ:Ev}{fl fl':Fs}(ha:a ρ=.ok ds)(hg:g ds fl=.ok fl'):iSup g a k ρ fl=k ρ fl':=by
 unfold iSup
 rw [ha]
 show (g ds fl).bind _=_
 rw [hg]
 rfl
theorem no_c:([("triangle" : Str)]:List Str).contains "colour"=false:=by decide +kernel
theorem ZqJ:([("triangle" : Str)]:List Str).contains "pattern"=false:=by decide +kernel
theorem ZqF:([("triangle" : Str), "colour"]:List Str).contains "part"=false:=by decide +kernel
abbrev fsT(T:D):Fs:=[(("triangle" : Str),T)]
theorem ZgO{k:Nat}{T:D}(hk:k≤3)(h:Tr k T):ZbR [T] []=.ok (fsT T):=by
 unfold ZbR fnI
 rw [ZeO (d:=.non) (ZnJ hk h),ZeO (d:=.non) (Zny h),ZkU (d:=T) rfl (Zo4 h) rfl (by decide)]
 rfl
theorem Zgy{k:Nat}{T:D}{q:Rat}(hk:k≤3)(h:Tr k T):Zdt [T,frD q] []=.ok [(("triangle" : Str),T),(("colour" : Str),frD q)]:=by
 unfold Zdt fnI
 rw [Ziu (ds:=[T]) rfl (ZgO hk h),ZeO (d:=.non) (Zko q),ZkU (d:=frD q) rfl rfl no_c (by show (1:Nat)<100;decide)]
 rfl
theorem Zij{k:Nat}{T:D}(hk:k≤3)(h:Tr k T)(h1:1≤k):Zcj [T] []=.ok (fsT T):=by
 unfold Zcj fnI
 rw [Ziu (ds:=[T]) rfl (ZgO hk h),ZeO (d:=.non) (ZiK h (by omega))]
 rfl
theorem ZjE{k:Nat}{T:D}{q r:Rat}(hk:k≤3)(h:Tr k T)(h0:0≤r.num)(h1:r.num≤r.den):Zdl [T,frD q,frD r] []=.ok [(("triangle" : Str),T),(("colour" : Str),frD q),(("part" : Str),frD r)]:=by
 unfold Zdl fnI
 rw [Ziu (ds:=[T]) rfl (ZgO hk h),ZeO (d:=.non) (Zko q),ZeO (d:=.non) (ZkX h0 h1),ZkU (d:=frD q) rfl rfl no_c (by show (1:Nat)<100;decide),ZkU (d:=frD r) rfl rfl ZqF (by show (2:Nat)<100;decide)]
 rfl
theorem Zlf{Φ:D→Prop}{h w:Nat}{P:Nat→Nat→Rat}(hh:h≤100)(q:Φ (patD h w P)):Tl (Zcl [patD h w P]) Φ:=by
 unfold Zcl patD
 refine Zqv ?_
 walk_at "w"
 refine ⟨by rw [List.length_map,List.length_range];omega,?_⟩
 refine ZbL (fun i:Nat=>rowD w (P i)) (fun i hi=>?_) ?_
 ·unfold rowD
  walk_at "w"
 walk_at "w"
 exact q
theorem ZmD{k h w:Nat}{T:D}{P:Nat→Nat→Rat}(hk:k≤3)(ht:Tr k T)(h2:2≤k)(hh:Ct h)(hw:Ct w):Za7 [T,patD h w P] []=.ok [(("triangle" : Str),T),(("pattern" : Str),patD h w P)]:=by
 have h1:=hh.le
 have c1:ZaY [patD h w P]=.ok .non:=Tl.eq (Zfi hh hw rfl)
 have c2:Zcl [patD h w P]=.ok (patD h w P):=Tl.eq (Zlf (by omega) rfl)
 unfold Za7 fnI
 rw [Ziu (ds:=[T]) rfl (ZgO hk ht),ZeO (d:=.non) (ZiK ht (by omega)),ZeO (d:=.non) c1,ZqD (d:=patD h w P) (e:=on Zcl (Zab (v 2) anil)) (ρ:=Cl.no::ev0 (3 - 1) [T,patD h w P]) (show Zcl [patD h w P]=_ from c2) (Zj2 h w P) ZqJ (by show (1:Nat)<100;decide)]
 rfl
theorem fC1(T q:D):dFld objs "colour" (.ins "Plain" ["triangle", "colour"] [T,q])=.ok q:=rfl
theorem fC4(T q r:D):dFld objs "colour" (.ins "Glass" ["triangle", "colour", "part"] [T,q,r])=.ok q:=rfl
theorem fP4(T q r:D):dFld objs "part" (.ins "Glass" ["triangle", "colour", "part"] [T,q,r])=.ok r:=rfl
theorem fN3(T q:D):dFld objs "pattern" (.ins "Patterned" ["triangle", "pattern"] [T,q])=.ok q:=rfl
theorem Zin{Φ:D→Prop}{tab:List (Str×(List D→Res D))}{m:Str}{o:ME}{a:MA}{ρ:Ev}(h:Tl (o ρ) fun d=>∃(c:Str) (ns:List Str) (vs:List D) (f:List D→Res D),d=.ins c ns vs∧ns.contains m=false∧tab.lookup c=some f∧Tl (a ρ) fun ds=>Tl (f (.ins c ns vs::ds)) Φ):Tl (meth tab m o a ρ) Φ:=by
 obtain ⟨d,e1,c,ns,vs,f,rfl,hn,ht,ds,e2,q⟩:=h
 unfold meth
 rw [e1]
 show Tl (if ns.contains m=true then .bad else match tab.lookup c with
  | some f=>(a ρ).bind fun ds=>f (.ins c ns vs::ds)
  | none=>.bad) Φ
 rw [hn,if_neg Bool.false_ne_true,ht]
 show Tl ((a ρ).bind fun ds=>f (.ins c ns vs::ds)) Φ
 rw [e2]
 exact q
theorem ZdB{Φ:D→Prop}{c:Str}{g:List D→Fs→Res Fs}{a:MA}{ρ:Ev}(h:Tl (a ρ) fun ds=>∃fl,g ds []=.ok fl∧Φ (.ins c (fl.map (·.1)) (fl.map (·.2)))):Tl (make c g a ρ) Φ:=by
 obtain ⟨ds,e1,fl,e2,q⟩:=h
 refine Zay ?_ q
 unfold make
 rw [e1]
 show (g ds []).bind _=_
 rw [e2]
 rfl
def D10(m:Nat):List Nat:=(Nat.toDigits 10 m).map Char.toNat
def tI(n:Int):List Nat:=if n<0 then 45::D10 n.natAbs else D10 n.natAbs
theorem ZmR(a b:String):Str.ofString (a++b)=Str.ofString a++Str.ofString b:=by
 rw [←Zdp (Str.ofString a++Str.ofString b),ZgK,←Zdp (Str.ofString (a++b))]
 refine congrArg mkS ?_
 show (Str.ofString (a++b)).cps.toList=(Str.ofString a).cps.toList++(Str.ofString b).cps.toList
 rw [PyProof.Rows.signs_ofString,PyProof.Rows.signs_ofString,PyProof.Rows.signs_ofString,String.toList_append,List.map_append]
theorem Zh8(m:Nat):Str.ofString (toString (m:Int))=mkS (D10 m):=by
 rw [←Zdp (Str.ofString _)]
 exact congrArg mkS (W.KIN.signs_num m)
theorem Zov(n:Int):Str.ofString (toString n)=mkS (tI n):=by
 unfold tI
 split
 ·next h =>
  rw [PyProof.Rows.toString_neg h,ZmR,show (0:Int) - n=(n.natAbs:Int) by omega,Zh8,show Str.ofString "-"=mkS [45] by decide +kernel,Zj6]
  rfl
 ·next h =>
  have e:n=(n.natAbs:Int):=by omega
  rw [e,Zh8]
  rfl
theorem ZdM{m c:Nat}(h:c∈D10 m):48≤c∧c≤57:=by
 obtain ⟨ch,hch,e⟩:=List.mem_map.mp h
 rw [←e]
 exact PyProof.Rows.digit_range (Nat.isDigit_of_mem_toDigits (by decide) (by decide) hch)
theorem Znu(m:Nat):digV (D10 m)=m:=W.KIN.val_back m
theorem Zh7{m k:Nat}(hk:0<k)(h:m<10^k):(D10 m).length≤k:=by
 have:=PyProof.Rows.toString_length_le (v:=(m:Int)) (by omega) hk (by exact_mod_cast h)
 rw [Zh8,Zct] at this
 exact this
theorem ZhK(m:Nat):D10 m≠[]:=by
 unfold D10
 intro e
 have:=PySem.toDigits_len_ge 10 m
 rw [List.map_eq_nil_iff.mp e] at this
 exact absurd this (by decide)
theorem Zk7{m:Nat}(h:10≤m):D10 m=D10 (m/10)++D10 (m%10):=by
 unfold D10
 rw [←List.map_append]
 have t:Nat.toDigits 10 (m/10)++Nat.toDigits 10 (m%10)=Nat.toDigits 10 (10*(m/10)+m%10):=Nat.toDigits_append_toDigits (by decide) (by omega) (by omega)
 rw [Nat.div_add_mod] at t
 rw [t]
theorem ZiI:∀(m:Nat) {c:Nat} {r:List Nat},D10 m=c::r→c=48→m=0:=by
 intro m
 induction m using Nat.strongRecOn with
 | _ m ih =>
  intro c r e hc
  by_cases h:m<10
  ·have e2:D10 m=[(Nat.digitChar m).toNat]:=by unfold D10;rw [Nat.toDigits_of_lt_base h];rfl
   rw [e2] at e
   have h1:(Nat.digitChar m).toNat=c:=by injection e
   subst hc
   have:∀m:Nat,m<10→(Nat.digitChar m).toNat=48→m=0:=by decide
   exact this m h h1
  ·rw [Zk7 (by omega)] at e
   cases e1:D10 (m/10) with
   | nil=>exact absurd e1 (ZhK _)
   | cons a b =>
    rw [e1] at e
    have h1:a=c:=by injection e
    have:=ih (m/10) (by omega) e1 (h1.trans hc)
    omega
theorem Zd4{n:Int}{c:Nat}(h:c∈tI n):c=45∨(48≤c∧c≤57):=by
 unfold tI at h
 split at h
 ·rcases List.mem_cons.mp h with h | h
  ·exact .inl h
  ·exact .inr (ZdM h)
 ·exact .inr (ZdM h)
theorem ZqU(n:Int):tI n≠[]:=by
 unfold tI
 split
 ·simp
 ·exact ZhK _
theorem ZeK{n:Int}{k:Nat}(hk:0<k)(h:n.natAbs<10^k):(tI n).length≤k+1:=by
 unfold tI
 have:=Zh7 hk h
 split
 ·simpa using this
 ·omega
def Asc(l:List Nat):Prop:=∀c∈l,c<128
theorem Asc.pl{l:List Nat}(h:Asc l):(mkS l).cps.all (·<0x110000)=true:=by
 rw [Array.all_eq_true]
 intro i hi
 have:(mkS l).cps[i]∈l:=by
  have hi':i<l.length:=by simpa [mkS] using hi
  have e:(mkS l).cps[i]=l[i]:=by simp [mkS]
  exact e▸List.getElem_mem hi'
 have:=h _ this
 simp only [decide_eq_true_eq]
 omega
theorem ZiE(n:Int):Asc (tI n):=fun c h=>by have:=Zd4 h;omega
theorem ZhX(a b:List Nat):(mkS a==mkS b)=decide (a=b):=by
 rw [Bool.eq_iff_iff,beq_iff_eq,decide_eq_true_eq]
 exact ⟨Zm2,fun h=>by rw [h]⟩
theorem Zev{Φ:D→Prop}{a b:List Nat}(ha:Asc a)(hb:Asc b)(h:Φ (.bl (decide (a=b)))):Tl (dEq (.str (mkS a)) (.str (mkS b))) Φ:=by
 refine Zay (x:=.bl (decide (a=b))) ?_ h
 unfold dEq
 have e1:plain 50 (.str (mkS a))=true:=ha.pl
 have e2:plain 50 (.str (mkS b))=true:=hb.pl
 rw [e1,e2]
 show Res.ok (D.bl (mkS a==mkS b))=_
 rw [ZhX]
theorem Zqt{Φ:D→Prop}{a b:List Nat}(ha:Asc a)(hb:Asc b)(h:Φ (.bl (!decide (a=b)))):Tl (dNe (.str (mkS a)) (.str (mkS b))) Φ:=by
 refine Zay (x:=.bl (!decide (a=b))) ?_ h
 unfold dNe
 have e1:plain 50 (.str (mkS a))=true:=ha.pl
 have e2:plain 50 (.str (mkS b))=true:=hb.pl
 rw [e1,e2]
 show Res.ok (D.bl (!(mkS a==mkS b)))=_
 rw [ZhX]
theorem w_sD{Φ:D→Prop}{f:Str→D→Res D}{a b:ME}{ρ:Ev}(h:Tl (a ρ) fun x=>∃z,x=.str z∧Tl (b ρ) fun d=>Tl (f z d) Φ):Tl (sD f a b ρ) Φ:=by
 obtain ⟨x,e1,z,rfl,d,e2,q⟩:=h
 unfold sD
 rw [e1]
 show Tl ((b ρ).bind (f z)) Φ
 rw [e2]
 exact q
theorem ZiS{Φ:D→Prop}{a b:List Nat}(h:Φ (.bl (a.take b.length==b))):Tl (Zgr (mkS a) (.str (mkS b))) Φ:=by
 refine Zay (x:=.bl (a.take b.length==b)) ?_ h
 show Res.ok (D.bl ((cpL (mkS a)).take (cpL (mkS b)).length==cpL (mkS b)))=_
 rw [ZaZ,ZaZ]
theorem ZgZ{Φ:D→Prop}{a:List Nat}{c:Nat}(hl:a.length≤1000000)(h:Φ (.lst ((Zbe c a).map fun l=>.str (mkS l)))):Tl (ZfH (mkS a) (.str (mkS [c]))) Φ:=by
 refine Zay ?_ h
 unfold ZfH
 dsimp only
 rw [ZaZ [c]]
 dsimp only
 rw [Zct,if_pos (show _≤LIM from hl),ZaZ]
theorem ZhF:∀ls:List (List Nat),txts (ls.map fun l=>D.str (mkS l))=some (ls.map mkS)
 | []=>rfl
 | l::r=>by
  show (txts (r.map fun l=>D.str (mkS l))).map (mkS l::·)=_
  rw [ZhF r];rfl
def totL(s:Nat)(ls:List (List Nat)):Nat:=(ls.map List.length).sum+ls.length*s
theorem Zom(s:Nat)(ls:List (List Nat)):sumL s (ls.map mkS)=totL s ls:=by
 unfold sumL totL
 rw [List.map_map,List.length_map]
 rw [show ls.map ((fun x:Str=>x.length) ∘ mkS)=ls.map List.length from List.map_congr_left fun l _=>Zct l]
theorem ZiA{s:List Nat}{ls:List (List Nat)}(hl:totL s.length ls≤1000000):Zhk (mkS s) (ls.map fun l=>D.str (mkS l))=.ok (.str (mkS (Zaz s ls))):=by
 unfold Zhk
 rw [ZhF]
 dsimp only
 rw [Zct,Zom,if_pos (show _≤LIM from hl),ZaZ,List.map_map]
 have:(cpL ∘ mkS)=id:=funext ZaZ
 rw [this,List.map_id]
theorem ZdW{Φ:D→Prop}{s:List Nat}{ls:List (List Nat)}(hl:totL s.length ls≤1000000)(h:Φ (.str (mkS (Zaz s ls)))):Tl (ZgP (mkS s) (.lst (ls.map fun l=>.str (mkS l)))) Φ:=Zay (ZiA hl) h
theorem ZbG{Φ:D→Prop}{a b:List Nat}(hl:a.length+b.length≤1000000)(h:Φ (.str (mkS (a++b)))):Tl (dAdd (.str (mkS a)) (.str (mkS b))) Φ:=by
 refine Zay ?_ h
 show (if (mkS a).length+(mkS b).length≤LIM then Res.ok (D.str (mkS a++mkS b)) else .bad)=_
 rw [Zct,Zct,if_pos (show _≤LIM from hl),Zj6]
theorem ZpT{Φ:D→Prop}{a:List Nat}(hl:a.length≤1000000)(h:Φ (.int a.length)):Tl (Zlg [.str (mkS a)]) Φ:=by
 refine Zay ?_ h
 show (if (mkS a).length≤LIM then Res.ok (D.int (mkS a).length) else .bad)=_
 rw [Zct,if_pos (show _≤LIM from hl)]
theorem w_inS{Φ:D→Prop}{c:Nat}{b:List Nat}(h:Φ (.bl (b.contains c))):Tl (dInT (.str (mkS [c])) (.str (mkS b))) Φ:=by
 refine Zay (x:=.bl (b.contains c)) ?_ h
 unfold dInT
 dsimp only
 rw [ZaZ [c]]
 dsimp only
 rw [ZaZ]
theorem ZoG{Φ:D→Prop}{c:Nat}{b:List Nat}(h:Φ (.bl (!b.contains c))):Tl (ZiZ (.str (mkS [c])) (.str (mkS b))) Φ:=by
 refine Zay (x:=.bl (!b.contains c)) ?_ h
 unfold ZiZ
 dsimp only
 rw [ZaZ [c]]
 dsimp only
 rw [ZaZ]
theorem ZnG{Φ:D→Prop}{a b:List Nat}{c:Nat}(hc:c∉a)(hl:(a++c::b).length≤1000000)(h:Φ (.tup [.str (mkS a),.str (mkS [c]),.str (mkS b)])):Tl (ZjM (mkS (a++c::b)) (.str (mkS [c]))) Φ:=by
 refine Zay ?_ h
 have e:∀a:List Nat,c∉a→Zc2 c (a++c::b)=some (a,b):=by
  intro a
  induction a with
  | nil=>intro _;show Zc2 c (c::b)=_;unfold Zc2;rw [if_pos rfl]
  | cons x r ih =>
   intro h
   have h1:¬x=c:=fun e=>h (by rw [e];exact List.mem_cons_self)
   show Zc2 c (x::(r++c::b))=_
   unfold Zc2
   rw [if_neg h1,ih fun m=>h (List.mem_cons_of_mem _ m)]
   rfl
 unfold ZjM
 dsimp only
 rw [ZaZ [c]]
 dsimp only
 rw [Zct,if_pos (show _≤LIM from hl),ZaZ,e a hc]
theorem Zpi{Φ:D→Prop}{a:ME}{i:Int}{ρ:Ev}{l:List Nat}(ha:a ρ=.ok (.str (mkS l)))(hi:0≤i)(hl:l.length≤1000000)(h:Φ (.str (mkS (l.drop i.toNat)))):Tl (cutT a (pso (c (.int i))) pno ρ) Φ:=by
 refine Zay ?_ h
 unfold cutT
 rw [ha]
 show cutS (mkS l) (some i) none=_
 unfold cutS
 rw [Zct,if_pos (show _≤LIM from hl)]
 dsimp only
 rw [if_pos hi,ZaZ]
theorem Zha{Φ:D→Prop}{n:Int}{k:Nat}(s:Sm k n)(hk:k≤1900)(h:Φ (.str (mkS (tI n)))):Tl (bStr [.int n]) Φ:=by
 refine Zay ?_ h
 show (if n.natAbs.log2<1920 then Res.ok (D.str (Str.ofString (toString n))) else .bad)=_
 rw [if_pos (show n.natAbs.log2<1920 from Nat.lt_of_lt_of_le (Zmk (s.mono (show k≤1900 from hk)) (by decide)) (by decide)),Zov]
theorem Zq3{Φ:List D→Prop}{a:ME}{ρ:Ev}{l:List Nat}(ha:a ρ=.ok (.str (mkS l)))(hl:Asc l)(h:Φ (l.map fun c=>.str (mkS [c]))):Tl (ivT a ρ) Φ:=by
 refine Zay ?_ h
 unfold ivT
 rw [ha]
 show (if (cpL (mkS l)).all (·<128)=true then Res.ok ((cpL (mkS l)).map fun c=>D.str (mkS [c])) else .bad)=_
 rw [ZaZ,if_pos (List.all_eq_true.mpr fun c hc=>by simpa using hl c hc)]
theorem lit0:Str.ofString ""=mkS []:=by decide +kernel
theorem litM:Str.ofString "-"=mkS [45]:=by decide +kernel
theorem litZ:Str.ofString "0"=mkS [48]:=by decide +kernel
theorem Zor:Str.ofString "-0"=mkS [45,48]:=by decide +kernel
theorem litF:Str.ofString "0123456789"=mkS [48,49,50,51,52,53,54,55,56,57]:=by decide +kernel
theorem litS:Str.ofString "/"=mkS [47]:=by decide +kernel
theorem Zav{l:List Nat}(h:l.all (·<128)=true):Asc l:=fun c hc=>by simpa using List.all_eq_true.mp h c hc
theorem Zo2{Φ:D→Prop}{l:List Nat}(hd:∀c∈l,48≤c∧c≤57)(hn:l≠[])(hl:l.length≤30)(hh:∀r,l=48::r→r=[])(q:Φ (.bl true)):Tl (Zba [.str (mkS l)]) Φ:=by
 have ha:Asc l:=fun c hc=>by have:=hd c hc;omega
 unfold Zba
 walk_at "w"
 rw [lit0]
 refine Zev ha (Zav rfl) ?_
 rw [decide_eq_false hn]
 walk_at "w"
 refine ZpT (by omega) ?_
 walk_at "w"
 refine w_sD ?_
 walk_at "w"
 refine ⟨_,rfl,?_⟩
 walk_at "w"
 rw [litZ]
 refine ZiS ?_
 walk_at "w"
 have rest:Tl (ivT (v 0) [Cl.im (D.str (mkS l))]) fun xs=>xs.length≤1000000∧Tl (Zao (gN 0) yes (o2 dInT (v 0) (c (D.str (Str.ofString "0123456789")))) [Cl.no] xs) fun ys=>Tl (anil [Cl.im (D.str (mkS l))]) fun xs=>Tl (bAll (D.lst ys::xs)) fun x=>Tl (endOf (Fl.rt x)) Φ:=by
  refine Zq3 rfl ha ?_
  refine ⟨by simp;omega,?_⟩
  refine ZbL (enc:=fun c=>D.str (mkS [c])) (fun _=>.bl true) (fun c hc=>?_) ?_
  ·walk_at "w"
   rw [litF]
   refine w_inS ?_
   have:=hd c hc
   have e:[48,49,50,51,52,53,54,55,56,57].contains c=true:=by
    obtain ⟨h1,h2⟩:=this
    have:c=48∨c=49∨c=50∨c=51∨c=52∨c=53∨c=54∨c=55∨c=56∨c=57:=by omega
    rcases this with rfl | rfl | rfl | rfl | rfl | rfl | rfl | rfl | rfl | rfl<;>rfl
   rw [e]
  ·walk_at "w"
   refine Zgt (fun y hy=>?_) ?_
   ·obtain ⟨_,_,rfl⟩:=List.mem_map.mp hy
    rfl
   ·walk_at "w"
    exact q
 by_cases h:l=[48]
 ·subst h
  walk_at "w"
  refine Zqt ha ha ?_
  walk_at "w"
  exact rest
 ·have e:(List.take [48].length l==[48])=false:=by
   rw [beq_eq_false_iff_ne]
   intro e
   cases l with
   | nil=>exact hn rfl
   | cons a r =>
    have:a=48:=by simpa using e
    subst this
    exact h (by rw [hh r rfl])
  rw [e]
  walk_at "w"
  exact rest
theorem Zmt{Φ:D→Prop}{l:List Nat}{n:Int}(hl:l.length≤640)(e:intL l=some n)(h:Φ (.int n)):Tl (ZkW [.str (mkS l)]) Φ:=by
 refine Zay ?_ h
 show (if (mkS l).length≤640 then ofO ((intL (cpL (mkS l))).map D.int) else .bad)=_
 rw [Zct,if_pos hl,ZaZ,e]
 rfl
theorem ZiQ(m:Nat):figL (D10 m)=some m:=by
 unfold figL
 rw [if_pos ⟨ZhK m,List.all_eq_true.mpr fun c hc=>by have:=ZdM hc;simp [digB];omega⟩,Znu]
theorem ZjS(n:Int):intL (tI n)=some n:=by
 unfold tI
 split
 ·next h =>
  show (if 45=45 then (figL (D10 n.natAbs)).map (fun n:Nat=>-(n:Int)) else (figL (45::D10 n.natAbs)).map fun n:Nat=>(n:Int))=_
  rw [if_pos rfl,ZiQ]
  show some (-(n.natAbs:Int))=_
  congr 1
  omega
 ·next h =>
  have ef:=ZiQ n.natAbs
  cases e:D10 n.natAbs with
  | nil=>exact absurd e (ZhK _)
  | cons c r =>
   have hc:¬c=45:=by
    have:=ZdM (m:=n.natAbs) (c:=c) (by rw [e];exact List.mem_cons_self)
    omega
   show (if c=45 then (figL r).map (fun n:Nat=>-(n:Int)) else (figL (c::r)).map fun n:Nat=>(n:Int))=_
   rw [if_neg hc,←e,ef]
   show some ((n.natAbs:Int))=_
   congr 1
   omega
theorem Zik{Φ:D→Prop}{m:Nat}(h:m<10^30)(q:Φ (.bl true)):Tl (Zba [.str (mkS (D10 m))]) Φ :=
 Zo2 (fun c hc=>ZdM hc) (ZhK m) (Zh7 (by decide) h) (fun r e=>by
  have:=ZiI m e rfl
  subst this
  have e2:D10 0=[48]:=by decide +kernel
  rw [e2] at e
  injection e with _ e
  exact e.symm) q
theorem Zeh{Φ:D→Prop}{n:Int}(h:n.natAbs<10^30)(q:Φ (.int n)):Tl (ZaK [.str (mkS (tI n))]) Φ:=by
 unfold ZaK
 walk_at "w"
 refine w_sD ?_
 walk_at "w"
 refine ⟨_,rfl,?_⟩
 walk_at "w"
 rw [litM]
 refine ZiS ?_
 walk_at "w"
 have hz:tI n≠[45,48]:=by
  intro e
  unfold tI at e
  split at e
  ·next hn =>
   injection e with _ e
   have:=ZiI n.natAbs e rfl
   omega
  ·have:=ZdM (m:=n.natAbs) (c:=45) (by rw [e];exact List.mem_cons_self)
   omega
 have hl:(tI n).length≤31:=ZeK (by decide) h
 by_cases hn:n<0
 ·have e:tI n=45::D10 n.natAbs:=by unfold tI;rw [if_pos hn]
  have e1:(List.take [45].length (tI n)==[45])=true:=by rw [e];rfl
  rw [e1,if_pos rfl]
  refine Zpi (l:=tI n) rfl (by decide) (by omega) ?_
  rw [show (tI n).drop (1:Int).toNat=D10 n.natAbs by rw [e];rfl]
  walk_at "w"
  refine Zik h ?_
  walk_at "w"
  rw [Zor]
  refine Zev (ZiE n) (Zav rfl) ?_
  rw [decide_eq_false hz]
  walk_at "w"
  exact Zmt (by omega) (ZjS n) (by walk_at "w"; exact q)
 ·have e:tI n=D10 n.natAbs:=by unfold tI;rw [if_neg hn]
  have e1:(List.take [45].length (tI n)==[45])=false:=by
   rw [beq_eq_false_iff_ne,e]
   intro e2
   have:=ZdM (m:=n.natAbs) (c:=45) (List.mem_of_mem_take (i:=1) (by
    have e3:List.take 1 (D10 n.natAbs)=[45]:=e2
    rw [e3];exact List.mem_cons_self))
   omega
  rw [e1,if_neg Bool.false_ne_true]
  walk_at "w"
  rw [e]
  refine Zik h ?_
  rw [←e]
  walk_at "w"
  rw [Zor]
  refine Zev (ZiE n) (Zav rfl) ?_
  rw [decide_eq_false hz]
  walk_at "w"
  exact Zmt (by omega) (ZjS n) (by walk_at "w"; exact q)
theorem Zhu{Φ:D→Prop}{s:List Nat}{ls:List (List Nat)}{j:Nat}{ρ:Ev}(e:ρ[j]?=some (.ow (ls.map fun l=>D.str (mkS l))))(hl:totL s.length ls.reverse≤1000000)(h:Φ (.str (mkS (Zaz s ls.reverse)))):Tl (joinRev (mkS s) j ρ) Φ:=by
 refine Zay ?_ h
 unfold joinRev
 rw [e]
 show Zhk (mkS s) ((ls.map fun l=>D.str (mkS l)).reverse)=_
 rw [←List.map_reverse]
 exact ZiA hl
theorem Zed{Φ:D→Prop}{n:Int}(h:n.natAbs<10^60)(q:Φ (.str (mkS (tI n)))):Tl (ZaI [.int n]) Φ:=by
 unfold ZaI
 walk_at "w"
 refine w_wh (fun ρ=>ρ=[Cl.im (D.int n),Cl.ow [],Cl.im (D.int (n.natAbs:Int))]) (fun _=>0) rfl (by unfold fuel;omega) ?_
 rintro ρ rfl
 walk_at "w"
 have h0:((10:Int)^(60:Int).toNat≤(n.natAbs:Int))=False:=by
  rw [eq_iff_iff,iff_false,show ((10:Int)^(60:Int).toNat)=((10^60:Nat):Int) by decide]
  omega
 simp only [h0,decide_false]
 refine ⟨(fun z=>nomatch z),fun _=>?_⟩
 have sm:Sm 256 ((n.natAbs:Int)):=by
  unfold Sm
  rw [Int.natAbs_natCast]
  exact Nat.lt_trans h (by decide)
 walk_at "w"
 refine Zha sm (by decide) ?_
 have e:tI (n.natAbs:Int)=D10 n.natAbs:=by
  unfold tI
  rw [if_neg (by omega),Int.natAbs_natCast]
 rw [e]
 walk_at "w"
 refine ⟨by simp,?_⟩
 walk_at "w"
 have hlen:=Zh7 (m:=n.natAbs) (by decide) h
 refine Zg1 (fun hn=>?_) (fun hn=>?_)
 ·walk_at "w"
  refine ⟨by simp,?_⟩
  walk_at "w"
  rw [lit0,litM]
  refine Zhu (ls:=[D10 n.natAbs,[45]]) rfl (by simp [totL];omega) ?_
  walk_at "w"
  have:tI n=Zaz [] [D10 n.natAbs,[45]].reverse:=by unfold tI;rw [if_pos hn];rfl
  rw [←this]
  exact q
 ·walk_at "w"
  rw [lit0]
  refine Zhu (ls:=[D10 n.natAbs]) rfl (by simp [totL];omega) ?_
  walk_at "w"
  have:tI n=Zaz [] [D10 n.natAbs].reverse:=by unfold tI;rw [if_neg hn];rfl
  rw [←this]
  exact q
def fT(q:Rat):List Nat:=if q.den=1 then tI q.num else tI q.num++47::tI (q.den:Int)
structure B30(q:Rat):Prop where
 n:q.num.natAbs<10^30
 d:q.den<10^30
theorem sm30{n:Int}(h:n.natAbs<10^30):Sm 128 n:=Nat.lt_trans h (by decide)
theorem Zfd{q:Rat}{c:Nat}(h:c∈fT q):c=45∨c=47∨(48≤c∧c≤57):=by
 unfold fT at h
 split at h
 ·have:=Zd4 h;omega
 ·rcases List.mem_append.mp h with h | h
  ·have:=Zd4 h;omega
  ·rcases List.mem_cons.mp h with h | h
   ·omega
   ·have:=Zd4 h;omega
theorem ZmG(q:Rat):Asc (fT q):=fun c h=>by have:=Zfd h;omega
theorem Zfw{q:Rat}(h:B30 q):(fT q).length≤63:=by
 have h1:=ZeK (n:=q.num) (by decide) h.n
 have h2:=ZeK (n:=(q.den:Int)) (k:=30) (by decide) (by rw [Int.natAbs_natCast];exact h.d)
 unfold fT
 split
 ·omega
 ·rw [List.length_append,List.length_cons];omega
theorem ZpV{q:Rat}:fT q≠[47]:=by
 unfold fT
 split
 ·intro e
  have:=Zd4 (n:=q.num) (c:=47) (by rw [e];exact List.mem_cons_self)
  omega
 ·intro e
  have:=congrArg List.length e
  rw [List.length_append,List.length_cons] at this
  have h1:tI q.num≠[]:=ZqU _
  have:0<(tI q.num).length:=List.length_pos_iff.mpr h1
  simp at *
  omega
theorem ZcD{Φ:D→Prop}{q:Rat}(h:B30 q)(k:Φ (.str (mkS (fT q)))):Tl (Zau [frD q]) Φ:=by
 have h1:=ZeK (n:=q.num) (by decide) h.n
 have h2:=ZeK (n:=(q.den:Int)) (k:=30) (by decide) (by rw [Int.natAbs_natCast];exact h.d)
 unfold Zau frD
 walk_at "w"
 refine Zg1 (fun hd=>?_) (fun hd=>?_)
 ·walk_at "w"
  refine Zed (Nat.lt_trans h.n (by decide)) ?_
  walk_at "w"
  have e:fT q=tI q.num:=by unfold fT;rw [if_pos (by omega)]
  rw [←e];exact k
 ·walk_at "w"
  refine Zed (Nat.lt_trans h.n (by decide)) ?_
  walk_at "w"
  rw [litS]
  refine ZbG (by simp;omega) ?_
  walk_at "w"
  refine Zed (by rw [Int.natAbs_natCast];exact Nat.lt_trans h.d (by decide)) ?_
  refine ZbG (by simp;omega) ?_
  walk_at "w"
  have e:fT q=tI q.num++[47]++tI (q.den:Int):=by unfold fT;rw [if_neg (by omega)];simp
  rw [←e];exact k
theorem ZbN{Φ:D→Prop}{q:Rat}(h:B30 q)(k:Φ (.str (mkS (fT q)))):Tl (Za0 [frD q]) Φ:=by
 have h1:=ZeK (n:=q.num) (by decide) h.n
 have h2:=ZeK (n:=(q.den:Int)) (k:=30) (by decide) (by rw [Int.natAbs_natCast];exact h.d)
 have s2:Sm 128 (q.den:Int):=sm30 (by rw [Int.natAbs_natCast];exact h.d)
 unfold Za0 frD
 walk_at "w"
 refine Zg1 (fun hd=>?_) (fun hd=>?_)
 ·walk_at "w"
  refine Zha (sm30 h.n) (by decide) ?_
  walk_at "w"
  have e:fT q=tI q.num:=by unfold fT;rw [if_pos (by omega)]
  rw [←e];exact k
 ·walk_at "w"
  refine Zha (sm30 h.n) (by decide) ?_
  walk_at "w"
  rw [litS]
  refine ZbG (by simp;omega) ?_
  walk_at "w"
  refine Zha s2 (by decide) ?_
  refine ZbG (by simp;omega) ?_
  walk_at "w"
  have e:fT q=tI q.num++[47]++tI (q.den:Int):=by unfold fT;rw [if_neg (by omega)];simp
  rw [←e];exact k
theorem Zdu{Φ:D→Prop}{q:Rat}(h:B30 q)(k:Φ (frD q)):Tl (ZaB [.str (mkS (fT q))]) Φ:=by
 unfold ZaB
 walk_at "w"
 rw [litS]
 refine ZoG ?_
 by_cases hd:q.den=1
 ·have e:fT q=tI q.num:=by unfold fT;rw [if_pos hd]
  have hc:(fT q).contains 47=false:=by
   rw [List.contains_eq_mem,decide_eq_false_iff_not,e]
   intro hm
   have:=Zd4 hm
   omega
  rw [hc]
  walk_at "w"
  rw [e]
  refine Zeh h.n ?_
  walk_at "w"
  have:frD q=.tup [.int q.num,.int 1]:=by unfold frD;rw [hd];rfl
  rw [←this];exact k
 ·have e:fT q=tI q.num++47::tI (q.den:Int):=by unfold fT;rw [if_neg hd]
  have hc:(fT q).contains 47=true:=by
   rw [List.contains_eq_mem,decide_eq_true_eq,e]
   exact List.mem_append_right _ List.mem_cons_self
  rw [hc]
  walk_at "w"
  refine w_sD ?_
  walk_at "w"
  refine ⟨_,rfl,?_⟩
  walk_at "w"
  rw [e]
  have hl:=Zfw h
  rw [e] at hl
  refine ZnG (fun hm=>by have:=Zd4 hm;omega) (by omega) ?_
  walk_at "w"
  refine Zeh h.n ?_
  walk_at "w"
  refine Zeh (by rw [Int.natAbs_natCast];exact h.d) ?_
  walk_at "w"
  refine ZbY (q:=q) ?_
  walk_at "w"
  exact k
def fra(t b:Int):D:=.tup [.int (Mt.frT t b),.int (Mt.frB t b)]
theorem Zpo{t b:Int}(h:b≠0):Int.gcd t b≤b.natAbs:=Nat.le_of_dvd (by omega) (Int.natAbs_dvd_natAbs.mpr (Int.gcd_dvd_right t b) |> fun y=>by simpa using y)
theorem ZjL{t b:Int}(hb:b≠0):fra t b=frD (Rat.divInt t b):=by
 have F:=Mt.Zqn (t:=t) hb
 have d0:((Rat.divInt t b).den:Int)≠0:=by have:=(Rat.divInt t b).den_nz;omega
 have e:=(Rat.divInt_eq_divInt_iff d0 hb).mp (Rat.num_divInt_den (Rat.divInt t b))
 have r:=(Rat.divInt t b).reduced
 have p:=(Rat.divInt t b).den_pos
 generalize Rat.divInt t b=q at *
 have low:Int.gcd q.num (q.den:Int)=1:=by
  show Nat.gcd q.num.natAbs (q.den:Int).natAbs=1
  rw [Int.natAbs_natCast]
  exact r
 have s:=F.same
 obtain ⟨h1,h2⟩:=Mt.Zqe F.pos F.low (show 1≤(q.den:Int) by omega) low (by
  generalize Mt.frT t b=T at *
  generalize Mt.frB t b=B at *
  refine Int.eq_of_mul_eq_mul_left hb ?_
  calc b*(T*q.den)=(T*b)*q.den:=by grind
   _=(t*q.den)*B:=by rw [s];grind
   _=b*(q.num*B):=by rw [←e];grind)
 unfold fra frD
 rw [h1,h2]
theorem ZkB{t b:Int}(hb:0<b)(st:t.natAbs<10^30)(sb:b.natAbs<10^30):B30 (Rat.divInt t b):=by
 have e:=ZjL (t:=t) (b:=b) (by omega)
 unfold fra frD Mt.frT Mt.frB at e
 rw [if_neg (by omega),if_neg (by omega)] at e
 have g0:0<(Int.gcd t b:Int):=by have:=Mt.ZgF (t:=t) (b:=b) (by omega);omega
 injection e with e
 injection e with e1 e2
 injection e1 with e1
 injection e2 with e2 _
 injection e2 with e2
 have z1:(t.fdiv (Int.gcd t b:Int)).natAbs≤t.natAbs:=Mt.Zif g0
 have z2:(b.fdiv (Int.gcd t b:Int)).natAbs≤b.natAbs:=Mt.Zif g0
 rw [e1] at z1
 rw [e2,Int.natAbs_natCast] at z2
 exact ⟨Nat.lt_of_le_of_lt z1 st,Nat.lt_of_le_of_lt z2 sb⟩
theorem lowf{t b:Int}(hb:0<b)(sb:b.natAbs<10^30):0<(Int.gcd t b:Int)∧Sm 128 (Int.gcd t b:Int)∧D.tup [.int (t/(Int.gcd t b:Int)),.int (b/(Int.gcd t b:Int))]=frD (Rat.divInt t b):=by
 have e:=ZjL (t:=t) (b:=b) (by omega)
 unfold fra Mt.frT Mt.frB at e
 rw [if_neg (by omega),if_neg (by omega)] at e
 have g0:0<(Int.gcd t b:Int):=by have:=Mt.ZgF (t:=t) (b:=b) (by omega);omega
 rw [Int.fdiv_eq_ediv_of_nonneg _ (by omega),Int.fdiv_eq_ediv_of_nonneg _ (by omega)] at e
 exact ⟨g0,(sm30 sb).le (by rw [Int.natAbs_natCast];exact Zpo (by omega)),e⟩
theorem Zp7{Φ:D→Prop}{cc k b:Int}(hk:0≤k∧k≤3900)(hb:0<b)(q:∀r:Int,0≤r∧r<b→Φ (.int r)):Tl (ZbZ [.int cc,.int k,.int b]) Φ:=by
 unfold ZbZ
 walk_at "w"
 refine Zbk (by omega) fun r1 hr1=>?_
 walk_at "w"
 refine Zbk (by omega) fun r2 hr2=>?_
 walk_at "w"
 refine w_shl (by omega) (by omega) (by omega) ?_
 walk_at "w"
 refine Zbk (by omega) fun r3 hr3=>?_
 walk_at "w"
 refine w_shl (by omega) (by omega) (by omega) ?_
 walk_at "w"
 refine Zbk (by omega) fun r4 hr4=>?_
 walk_at "w"
 refine w_shl (by omega) (by omega) (by omega) ?_
 walk_at "w"
 exact q _ ⟨Int.emod_nonneg _ (by omega),Int.emod_lt_of_pos _ hb⟩
theorem ZeA{Φ:D→Prop}{cc k:Int}(hk:0≤k∧k≤3800)(q:∀r:Rat,B30 r→Φ (frD r)):Tl (ZaC [.int cc,.int k]) Φ:=by
 unfold ZaC
 walk_at "w"
 refine Zbk (by omega) fun r1 hr1=>?_
 walk_at "w"
 refine Zh2 (by simp;omega) fun d hd=>?_
 obtain ⟨f,rfl,f1⟩ : ∃f:Int,d=.int f∧21≤f∧f≤10^30:=by
  simp only [List.mem_cons,List.not_mem_nil,or_false] at hd
  rcases hd with rfl | rfl | rfl
  ·exact ⟨_,rfl,by decide,by decide⟩
  ·exact ⟨_,rfl,by decide,by decide⟩
  ·exact ⟨_,rfl,by decide,by decide⟩
 clear hd
 have sf:Sm 128 f:=by show f.natAbs<2^128;omega
 walk_at "w"
 refine Zp7 (by omega) (by omega) fun t0 ht0=>?_
 walk_at "w"
 refine Zbk (by omega) fun r2 hr2=>?_
 walk_at "w"
 refine Zh2 (by simp;omega) fun d hd=>?_
 obtain ⟨g,rfl,g1⟩ : ∃g:Int,d=.int g∧1≤g∧g≤10^30 - 1:=by
  simp only [List.mem_cons,List.not_mem_nil,or_false] at hd
  rcases hd with rfl | rfl | rfl
  ·exact ⟨_,rfl,by decide,by decide⟩
  ·exact ⟨_,rfl,by decide,by decide⟩
  ·exact ⟨_,rfl,by omega,by omega⟩
 clear hd
 walk_at "w"
 refine Zp7 (by omega) (by omega) fun b0 hb0=>?_
 walk_at "w"
 refine Zg8 ?_
 obtain ⟨g0,sg,e⟩:=lowf (t:=t0 - f+1) (b:=1+b0) (by omega) (by omega)
 walk_at "w"
 rw [e]
 exact q _ (ZkB (by omega) (by omega) (by omega))
theorem ZjI{Φ:D→Prop}{cc k:Int}(hk:0≤k∧k≤3800)(q:∀r:Rat,B30 r→0≤r.num→r.num≤r.den→Φ (frD r)):Tl (Zb3 [.int cc,.int k]) Φ:=by
 unfold Zb3
 walk_at "w"
 refine ZeA hk fun r hr=>?_
 have hd:=r.den_pos
 have e0:frD r=.tup [.int r.num,.int (r.den:Int)]:=rfl
 rw [e0]
 walk_at "w"
 have rest:Tl (ZaM [.int (r.num%(r.den:Int)),.int (r.den:Int)]) fun x=>Tl (goOn (Dl.ret (mtp (Zab (o2 dDiv (o2 dMod (o2 dIx (v 2) (c (D.int 0))) (o2 dIx (v 2) (c (D.int 1)))) (v 3)) (Zab (o2 dDiv (o2 dIx (v 2) (c (D.int 1))) (v 3)) anil)))) (.nx [Cl.im (D.int cc),Cl.im (D.int k),Cl.im (D.tup [D.int r.num,D.int (r.den:Int)]),Cl.im x])) fun f=>Tl (endOf f) Φ:=by
  have m0:0≤r.num%(r.den:Int)∧r.num%(r.den:Int)<(r.den:Int):=⟨Int.emod_nonneg _ (by omega),Int.emod_lt_of_pos _ (by omega)⟩
  have hd2:=hr.d
  refine Zg8 ?_
  obtain ⟨t,et⟩ : ∃t,r.num%(r.den:Int)=t:=⟨_,rfl⟩
  rw [et] at m0 ⊢
  obtain ⟨g0,sg,e⟩:=lowf (t:=t) (b:=(r.den:Int)) (by omega) (by omega)
  have e2:=e
  unfold frD at e2
  injection e2 with e2
  injection e2 with e3 e4
  injection e3 with e3
  injection e4 with e4 _
  injection e4 with e4
  walk_at "w"
  rw [et,e]
  refine q _ (ZkB (by omega) (by omega) (by omega)) ?_ ?_
  ·rw [←e3];exact Int.ediv_nonneg m0.1 (by omega)
  ·rw [←e3,←e4];exact Int.ediv_le_ediv g0 (by omega)
 refine Zg1 (fun h1=>?_) (fun h1=>?_)
 ·walk_at "w"
  refine Zg1 (fun h2=>?_) (fun h2=>?_)
  ·walk_at "w"
   exact q r hr h1 h2
  ·walk_at "w"
   exact rest
 ·walk_at "w"
  exact rest
theorem Zei{Φ:D→Prop}{cc k:Int}(hk:0≤k∧k≤900)(q:∀n:Int,Bd n→Φ (.int n)):Tl (ZaL [.int cc,.int k]) Φ:=by
 unfold ZaL
 walk_at "w"
 refine Zbk (by omega) fun r1 hr1=>?_
 walk_at "w"
 obtain ⟨n,en⟩ : ∃n,r1%2000001 - 1000000=n:=⟨_,rfl⟩
 have hn:Bd n:=by unfold Bd;omega
 rw [en]
 refine Zh2 (by simp;omega) fun d hd=>?_
 obtain ⟨m,rfl,hm⟩ : ∃m:Int,d=.int m∧Bd m:=by
  simp only [List.mem_cons,List.not_mem_nil,or_false] at hd
  rcases hd with rfl | rfl
  ·exact ⟨_,rfl,by unfold Bd;omega⟩
  ·exact ⟨_,rfl,by unfold Bd;omega⟩
 clear hd
 walk_at "w"
 refine Zbk (by omega) fun r2 hr2=>?_
 walk_at "w"
 refine Zh2 (by simp;omega) fun d hd=>?_
 obtain ⟨u,rfl,hu⟩ : ∃m:Int,d=.int m∧Bd m:=by
  simp only [List.mem_cons,List.not_mem_nil,or_false] at hd
  rcases hd with rfl | rfl | rfl | rfl
  ·exact ⟨_,rfl,hn⟩
  ·exact ⟨_,rfl,by unfold Bd;omega⟩
  ·exact ⟨_,rfl,hm⟩
  ·exact ⟨_,rfl,by unfold Bd;omega⟩
 walk_at "w"
 exact q u hu
theorem Zlm{Φ:D→Prop}{cc k:Int}{many:Nat}(hk:0≤k∧k≤800)(hm:many≤3)(q:∀(x y w h:Int) (vs:List Int),Ck x y w h→vs.length=many→(∀v∈vs,Bd v)→Φ (cor x y w h vs)):Tl (Zbb [.int cc,.int k,.int (many:Int)]) Φ:=by
 have hl:∀n:Nat,(Zbt 0 n).length=n:=fun n=>by unfold Zbt;simp
 unfold Zbb
 walk_at "w"
 refine Zei (by omega) fun x hx=>?_
 walk_at "w"
 refine Zei (by omega) fun y hy=>?_
 walk_at "w"
 rw [Int.toNat_natCast]
 refine ⟨by rw [hl];omega,?_⟩
 refine Zqb (fun j hj=>?_) fun vs lv bv=>?_
 ·walk_at "w"
  exact Zei (by omega) fun n hn=>⟨n,rfl,hn⟩
 walk_at "w"
 refine Zei (by omega) fun w0 hw=>?_
 walk_at "w"
 refine Zei (by omega) fun h0 hh=>?_
 walk_at "w"
 refine q x y _ _ vs ⟨hx,hy,?_,?_⟩ lv bv
 ·unfold Bd at hw;omega
 ·unfold Bd at hh;omega
theorem ZpS{d:D}(hd:d∈[.int 1,.int 2,.int 4,.int 8,.int 16]):∃n:Nat,d=.int (n:Int)∧Ct n:=by
 simp only [List.mem_cons,List.not_mem_nil,or_false] at hd
 rcases hd with rfl | rfl | rfl | rfl | rfl
 ·exact ⟨1,rfl,by unfold Ct;omega⟩
 ·exact ⟨2,rfl,by unfold Ct;omega⟩
 ·exact ⟨4,rfl,by unfold Ct;omega⟩
 ·exact ⟨8,rfl,by unfold Ct;omega⟩
 ·exact ⟨16,rfl,by unfold Ct;omega⟩
theorem Zg6{Φ:D→Prop}{cc:Int}(q:∀(h w:Nat) (P:Nat→Nat→Rat),Ct h→Ct w→(∀i,i<h→∀j,j<w→B30 (P i j))→Φ (patD h w P)):Tl (Zbg [.int cc]) Φ:=by
 have hl:∀n:Nat,(Zbt 0 n).length=n:=fun n=>by unfold Zbt;simp
 unfold Zbg
 walk_at "w"
 refine Zbk (by omega) fun r1 hr1=>?_
 walk_at "w"
 refine Zh2 (by simp;omega) fun d hd=>?_
 obtain ⟨h,rfl,hh⟩:=ZpS hd
 clear hd
 walk_at "w"
 refine Zbk (by omega) fun r2 hr2=>?_
 walk_at "w"
 refine Zh2 (by simp;omega) fun d hd=>?_
 obtain ⟨w,rfl,hw⟩:=ZpS hd
 clear hd
 have h1:=hh.le
 have w1:=hw.le
 walk_at "w"
 rw [Int.toNat_natCast]
 refine ⟨by rw [hl];omega,?_⟩
 refine w_all (fun _ y=>∃R:Nat→Rat,y=rowD w R∧∀j,j<w→B30 (R j)) (fun x hx=>?_) fun ys l hp=>?_
 ·obtain ⟨i,hi,rfl⟩:=mem_range hx
  walk_at "w"
  rw [Int.toNat_natCast]
  refine ⟨by rw [hl];omega,?_⟩
  refine w_all (fun _ y=>∃r:Rat,y=frD r∧B30 r) (fun x hx=>?_) fun ys l hp=>?_
  ·obtain ⟨j,hj,rfl⟩:=mem_range hx
   have ij:w*i≤16*15:=Nat.mul_le_mul w1.2 (by omega)
   have ij':(w:Int)*(i:Int)=((w*i:Nat):Int):=by rw [Int.natCast_mul]
   have mo:Zfa (w:Int) (i:Int)=true:=Dl.Zj8 (Dl.Sm.of64 (by omega) (by omega))
   walk_at "w"
   rw [ij']
   exact ZeA (by omega) fun r hr=>⟨r,rfl,hr⟩
  ·obtain ⟨f,e,hf⟩:=Zmq (enc:=frD) (Q:=B30) (ys:=ys) fun y hy=>by
    obtain ⟨i,hi,rfl⟩:=List.mem_iff_getElem.mp hy
    exact hp i _ _ (List.getElem?_eq_getElem (by omega)) (List.getElem?_eq_getElem hi)
   rw [hl] at l
   walk_at "w"
   refine ⟨f,?_,fun j hj=>hf j (by omega)⟩
   unfold rowD
   rw [e,l]
 ·obtain ⟨f,e,hf⟩:=Zmq (enc:=rowD w) (Q:=fun R=>∀j,j<w→B30 (R j)) (ys:=ys) fun y hy=>by
   obtain ⟨i,hi,rfl⟩:=List.mem_iff_getElem.mp hy
   exact hp i _ _ (List.getElem?_eq_getElem (by omega)) (List.getElem?_eq_getElem hi)
  rw [hl] at l
  walk_at "w"
  rw [e,l]
  exact q h w f hh hw fun i hi=>hf i (by omega)
abbrev S(l:List Nat):D:=.str (mkS l)
theorem Zb0{s x:List Nat}{r:List (List Nat)}(h:r≠[]):Zaz s (x::r)=x++s++Zaz s r:=by
 cases r with
 | nil=>exact absurd rfl h
 | cons y r=>rfl
theorem ZbE{s:List Nat}{b:List (List Nat)}(hb:b≠[]):∀{a:List (List Nat)},a≠[]→Zaz s (a++b)=Zaz s a++s++Zaz s b
 | [],h=>absurd rfl h
 | [x],_=>Zb0 hb
 | x::y::r,_=>by
  have ih:=ZbE (s:=s) hb (a:=y::r) (by simp)
  show Zaz s (x::((y::r)++b))=_
  rw [Zb0 (by simp),ih,Zb0 (s:=s) (x:=x) (r:=y::r) (by simp)]
  simp [List.append_assoc]
theorem Zdw{α:Type}{s:List Nat}(f:α→List (List Nat))(hf:∀a,f a≠[]):∀(l:List α) {ws:List (List Nat)},ws≠[]→Zaz s (ws++l.map fun a=>Zaz s (f a))=Zaz s (ws++l.flatMap f)
 | [],ws,_=>rfl
 | a::r,ws,h=>by
  have e1:ws++(a::r).map (fun a=>Zaz s (f a))=(ws++[Zaz s (f a)])++r.map fun a=>Zaz s (f a):=by simp
  have e2:ws++(a::r).flatMap f=(ws++f a)++r.flatMap f:=by simp
  rw [e1,Zdw f hf r (by simp),e2]
  cases hr:r.flatMap f with
  | nil=>rw [List.append_nil,List.append_nil,ZbE (by simp) h,ZbE (hf a) h];rfl
  | cons p q =>
   rw [ZbE (a:=ws++[Zaz s (f a)]) (b:=p::q) (by simp) (by simp),ZbE (a:=ws++f a) (b:=p::q) (by simp) (by simp [h]),ZbE (a:=ws) (b:=[Zaz s (f a)]) (by simp) h,ZbE (a:=ws) (b:=f a) (hf a) h]
   rfl
theorem ZcB{s:List Nat}{c:Nat}:∀{ls:List (List Nat)},c∈Zaz s ls→c∈s∨∃l∈ls,c∈l
 | [],h=>(List.not_mem_nil h).elim
 | [x],h=>.inr ⟨x,List.mem_cons_self,h⟩
 | x::y::r,h=>by
  rw [Zb0 (by simp)] at h
  rcases List.mem_append.mp h with h | h
  ·rcases List.mem_append.mp h with h | h
   ·exact .inr ⟨x,List.mem_cons_self,h⟩
   ·exact .inl h
  ·rcases ZcB h with h | ⟨l,hl,h⟩
   ·exact .inl h
   ·exact .inr ⟨l,List.mem_cons_of_mem _ hl,h⟩
theorem Za3{s:List Nat}:∀(ls:List (List Nat)),(Zaz s ls).length≤totL s.length ls
 | []=>Nat.zero_le _
 | [x]=>by unfold totL;simp [Zaz]
 | x::y::r=>by
  have ih:=Za3 (s:=s) (y::r)
  rw [Zb0 (by simp),List.length_append,List.length_append]
  unfold totL at ih ⊢
  simp only [List.map_cons,List.sum_cons,List.length_cons,Nat.add_mul] at ih ⊢
  omega
theorem ZdZ{s B:Nat}:∀{ls:List (List Nat)},(∀l∈ls,l.length≤B)→totL s ls≤ls.length*(B+s)
 | [],_=>by simp [totL]
 | x::r,h=>by
  have ih:=ZdZ (s:=s) (B:=B) (ls:=r) fun l hl=>h l (List.mem_cons_of_mem _ hl)
  have h1:=h x List.mem_cons_self
  unfold totL at ih ⊢
  simp only [List.map_cons,List.sum_cons,List.length_cons,Nat.add_mul] at ih ⊢
  omega
def rowT(w:Nat)(R:Nat→Rat):List Nat:=Zaz [44] ((List.range w).map fun j=>fT (R j))
def patT(h w:Nat)(P:Nat→Nat→Rat):List Nat:=Zaz [59] ((List.range h).map fun i=>rowT w (P i))
theorem litC:Str.ofString ","=mkS [44]:=by decide +kernel
theorem Zn6:Str.ofString ";"=mkS [59]:=by decide +kernel
theorem litB:Str.ofString " "=mkS [32]:=by decide +kernel
theorem ZeW{w:Nat}{R:Nat→Rat}(hw:w≤16)(hR:∀j,j<w→B30 (R j)):totL 1 ((List.range w).map fun j=>fT (R j))≤1024:=by
 refine Nat.le_trans (ZdZ (B:=63) fun l hl=>?_) (by rw [List.length_map,List.length_range];omega)
 obtain ⟨j,hj,rfl⟩:=List.mem_map.mp hl
 exact Zfw (hR j (List.mem_range.mp hj))
theorem Zd2{h w:Nat}{P:Nat→Nat→Rat}(hh:h≤16)(hw:w≤16)(hP:∀i,i<h→∀j,j<w→B30 (P i j)):totL 1 ((List.range h).map fun i=>rowT w (P i))≤16400:=by
 refine Nat.le_trans (ZdZ (B:=1024) fun l hl=>?_) (by rw [List.length_map,List.length_range];omega)
 obtain ⟨i,hi,rfl⟩:=List.mem_map.mp hl
 exact Nat.le_trans (Za3 _) (ZeW hw (hP i (List.mem_range.mp hi)))
theorem Zj1{Φ:D→Prop}{h w:Nat}{P:Nat→Nat→Rat}(hh:h≤16)(hw:w≤16)(hP:∀i,i<h→∀j,j<w→B30 (P i j))(q:Φ (S (patT h w P))):Tl (Zbh [patD h w P]) Φ:=by
 unfold Zbh patD
 walk_at "w"
 refine w_sD ?_
 walk_at "w"
 refine ⟨_,rfl,?_⟩
 walk_at "w"
 refine ⟨by simp;omega,?_⟩
 refine ZbL (fun i=>S (rowT w (P i))) (fun i hi=>?_) ?_
 ·unfold rowD
  walk_at "w"
  refine w_sD ?_
  walk_at "w"
  refine ⟨_,rfl,?_⟩
  walk_at "w"
  refine ⟨by simp;omega,?_⟩
  refine ZbL (fun j=>S (fT (P i j))) (fun j hj=>?_) ?_
  ·walk_at "w"
   exact ZcD (hP i (List.mem_range.mp hi) j (List.mem_range.mp hj)) rfl
  ·walk_at "w"
   rw [litC,show (List.range w).map (fun j=>S (fT (P i j)))=((List.range w).map fun j=>fT (P i j)).map S by rw [List.map_map];rfl]
   exact ZdW (Nat.le_trans (ZeW hw (hP i (List.mem_range.mp hi))) (by decide)) rfl
 ·walk_at "w"
  rw [Zn6,show (List.range h).map (fun i=>S (rowT w (P i)))=((List.range h).map fun i=>rowT w (P i)).map S by rw [List.map_map];rfl]
  exact ZdW (Nat.le_trans (Zd2 hh hw hP) (by decide)) (by walk_at "w"; exact q)
def nsC(x y w h:Int)(vs:List Int):List Int:=x::y::w::h::vs
def wdC(ns:List Int):List (List Nat):=[47]::ns.map tI
theorem tI7{n:Int}(h:Bd n):(tI n).length≤8:=ZeK (k:=7) (by decide) (by unfold Bd at h;omega)
theorem ZkC{ns:List Int}(hl:ns.length≤7)(hb:∀n∈ns,Bd n):totL 1 (wdC ns)≤80:=by
 refine Nat.le_trans (ZdZ (B:=8) fun l hl=>?_) (by unfold wdC;rw [List.length_cons,List.length_map];omega)
 rcases List.mem_cons.mp hl with rfl | hl
 ·simp
 ·obtain ⟨n,hn,rfl⟩:=List.mem_map.mp hl
  exact tI7 (hb n hn)
theorem ZjR{Φ:D→Prop}{x y w h:Int}{vs:List Int}(hl:vs.length≤3)(hb:∀n∈nsC x y w h vs,Bd n)(q:Φ (S (Zaz [32] (wdC (nsC x y w h vs))))):Tl (Zbs [cor x y w h vs]) Φ:=by
 unfold Zbs cor
 walk_at "w"
 refine w_sD ?_
 walk_at "w"
 refine ⟨_,rfl,?_⟩
 walk_at "w"
 unfold Zcf
 walk_at "w"
 rw [show cutL [D.int x,D.int y,D.int w,D.int h,D.tup (List.map D.int vs)] none (some 4)=[D.int x,D.int y,D.int w,D.int h] from rfl]
 refine Zht (by simp;omega) ?_
 rw [show [D.int x,D.int y,D.int w,D.int h]++vs.map D.int=(nsC x y w h vs).map D.int from rfl]
 walk_at "w"
 have l7:(nsC x y w h vs).length≤7:=by simp [nsC];omega
 generalize nsC x y w h vs=ns at *
 refine ⟨by simp;omega,?_⟩
 refine ZbL (fun n=>S (tI n)) (fun n hn=>?_) ?_
 ·walk_at "w"
  have:=hb n hn
  exact Zed (by unfold Bd at this;omega) rfl
 rw [litS,litB]
 refine Zht (by simp;omega) ?_
 rw [show [D.str (mkS [47])]++ns.map (fun n=>S (tI n))=(wdC ns).map S by unfold wdC;simp]
 refine ZdW (Nat.le_trans (ZkC l7 hb) (by decide)) ?_
 walk_at "w"
 exact q
theorem ZoB{α:Type}{Φ:Fl→Prop}{k:MS}{enc:α→D}{g:MG}{l:List α}(I:List α→Ev→Prop){ρ:Ev}(h0:I [] ρ)(h:∀p a r,l=p++a::r→∀ρ,I p ρ→Tl (g (enc a) ρ) fun ρ1=>Tl (k ρ1) fun f=>∃ρ2,f=.nx ρ2∧I (p++[a]) ρ2)(hd:∀ρ,I l ρ→Φ (.nx ρ)):Tl (Zb6 g k (l.map enc) ρ) Φ:=by
 have key:∀(r p:List α) (ρ:Ev),l=p++r→I p ρ→Tl (Zb6 g k (r.map enc) ρ) Φ:=by
  intro r
  induction r with
  | nil =>
   intro p ρ e hI
   rw [List.append_nil] at e
   subst e
   exact w_f0 (hd _ hI)
  | cons a r ih =>
   intro p ρ e hI
   refine w_f1 ((h p a r e ρ hI).mono fun ρ1 q=>q.mono fun f z=>?_)
   obtain ⟨ρ2,rfl,hI2⟩:=z
   exact w_tx (ih (p++[a]) ρ2 (by rw [e];simp) hI2)
 exact key l [] ρ rfl h0
inductive Kd where
 | pl (q:Rat) | sh | pa (h w:Nat) (P:Nat→Nat→Rat) | gl (q r:Rat)
def thD:Kd→D→D
 | .pl q,T=>.ins "Plain" ["triangle", "colour"] [T,frD q]
 | .sh,T=>.ins "Shaded" ["triangle"] [T]
 | .pa h w P,T=>.ins "Patterned" ["triangle", "pattern"] [T,patD h w P]
 | .gl q r,T=>.ins "Glass" ["triangle", "colour", "part"] [T,frD q,frD r]
def lPl:List Nat:=[112,108,97,105,110]
def lSh:List Nat:=[115,104,97,100,101,100]
def lPa:List Nat:=[112,97,116,116,101,114,110,101,100]
def lGl:List Nat:=[103,108,97,115,115]
theorem Zhc:Str.ofString "plain"=mkS lPl:=by decide +kernel
theorem Zjn:Str.ofString "shaded"=mkS lSh:=by decide +kernel
theorem Zj0:Str.ofString "patterned"=mkS lPa:=by decide +kernel
theorem Znf:Str.ofString "glass"=mkS lGl:=by decide +kernel
def hdW:Kd→List (List Nat)
 | .pl q=>[lPl,fT q]
 | .sh=>[lSh]
 | .pa h w P=>[lPa,patT h w P]
 | .gl q r=>[lGl,fT q,fT r]
def KOk(k:Nat):Kd→Prop
 | .pl q=>B30 q
 | .sh=>1≤k
 | .pa h w P=>2≤k∧Ct h∧Ct w∧∀i,i<h→∀j,j<w→B30 (P i j)
 | .gl q r=>B30 q∧B30 r∧0≤r.num∧r.num≤r.den
theorem ZhS{Φ:D→Prop}{k:Nat}{K:Kd}{T:D}(hk:KOk k K)(q:Φ (.lst ((hdW K).map S))):Tl (ZbK [thD K T]) Φ:=by
 unfold ZbK
 cases K with
 | pl c0 =>
  unfold thD
  walk_at "w"
  refine Zin ?_
  walk_at "w"
  refine ⟨_,_,_,ZbX,rfl,by decide +kernel,by rfl,?_⟩
  walk_at "w"
  unfold ZbX
  walk_at "w"
  rw [Zhc]
  refine Zev (Zav rfl) (Zav rfl) ?_
  walk_at "w"
  refine Zay (fC1 _ _) ?_
  walk_at "w"
  refine ZcD hk ?_
  walk_at "w"
  exact q
 | sh =>
  unfold thD
  walk_at "w"
  refine Zin ?_
  walk_at "w"
  refine ⟨_,_,_,Zbz,rfl,by decide +kernel,by rfl,?_⟩
  walk_at "w"
  unfold Zbz
  walk_at "w"
  rw [Zhc,Zjn]
  refine Zev (Zav rfl) (Zav rfl) ?_
  rw [decide_eq_false (show lSh≠lPl by decide)]
  walk_at "w"
  rw [Zj0]
  refine Zev (Zav rfl) (Zav rfl) ?_
  rw [decide_eq_false (show lSh≠lPa by decide)]
  walk_at "w"
  rw [Znf]
  refine Zev (Zav rfl) (Zav rfl) ?_
  rw [decide_eq_false (show lSh≠lGl by decide)]
  walk_at "w"
  exact q
 | pa h w P =>
  obtain ⟨k2,hh,hw,hP⟩:=hk
  unfold thD
  walk_at "w"
  refine Zin ?_
  walk_at "w"
  refine ⟨_,_,_,Za9,rfl,by decide +kernel,by rfl,?_⟩
  walk_at "w"
  unfold Za9
  walk_at "w"
  rw [Zhc,Zj0]
  refine Zev (Zav rfl) (Zav rfl) ?_
  rw [decide_eq_false (show lPa≠lPl by decide)]
  walk_at "w"
  refine Zev (Zav rfl) (Zav rfl) ?_
  walk_at "w"
  refine Zay (fN3 _ _) ?_
  walk_at "w"
  refine Zj1 hh.le.2 hw.le.2 hP ?_
  walk_at "w"
  exact q
 | gl c0 r =>
  obtain ⟨h1,h2,h3,h4⟩:=hk
  unfold thD
  walk_at "w"
  refine Zin ?_
  walk_at "w"
  refine ⟨_,_,_,ZbW,rfl,by decide +kernel,by rfl,?_⟩
  walk_at "w"
  unfold ZbW
  walk_at "w"
  rw [Zhc,Znf]
  refine Zev (Zav rfl) (Zav rfl) ?_
  rw [decide_eq_false (show lGl≠lPl by decide)]
  walk_at "w"
  rw [Zj0]
  refine Zev (Zav rfl) (Zav rfl) ?_
  rw [decide_eq_false (show lGl≠lPa by decide)]
  walk_at "w"
  refine Zev (Zav rfl) (Zav rfl) ?_
  walk_at "w"
  refine Zay (fC4 _ _ _) ?_
  walk_at "w"
  refine ZcD h1 ?_
  walk_at "w"
  refine Zay (fP4 _ _ _) ?_
  walk_at "w"
  refine ZcD h2 ?_
  walk_at "w"
  exact q
theorem fTri(K:Kd)(T:D):dFld objs "triangle" (thD K T)=.ok T:=by cases K<;>rfl
theorem Zfp(K:Kd):hdW K≠[]:=by cases K<;>simp [hdW]
theorem Zet{k:Nat}{K:Kd}(hk:KOk k K):totL 1 (hdW K)≤17000:=by
 cases K with
 | pl q=>have:=Zfw hk;simp [totL,hdW,lPl];omega
 | sh=>simp [totL,hdW,lSh]
 | pa h w P =>
  obtain ⟨k2,hh,hw,hP⟩:=hk
  have:=Nat.le_trans (Za3 (s:=[59]) ((List.range h).map fun i=>rowT w (P i))) (Zd2 hh.le.2 hw.le.2 hP)
  have e:(patT h w P).length≤16400:=this
  simp [totL,hdW,lPa];omega
 | gl q r =>
  obtain ⟨h1,h2,_⟩:=hk
  have:=Zfw h1
  have:=Zfw h2
  simp [totL,hdW,lGl];omega
abbrev C5:=Int×Int×Int×Int×List Int
def encC(c:C5):D:=cor c.1 c.2.1 c.2.2.1 c.2.2.2.1 c.2.2.2.2
def nsOf(c:C5):List Int:=nsC c.1 c.2.1 c.2.2.1 c.2.2.2.1 c.2.2.2.2
structure C5k(k:Nat)(c:C5):Prop where
 l:c.2.2.2.2.length=k
 k3:k≤3
 b:∀n∈nsOf c,Bd n
structure Cs(k:Nat)(T:D)(cs:List C5):Prop where
 e:T=.tup (cs.map encC)
 l:cs.length=3
 b:∀c∈cs,C5k k c
theorem Zoc{x y w h:Int}{vs:List Int}(c:Ck x y w h)(hv:∀v∈vs,Bd v):∀n∈nsC x y w h vs,Bd n:=by
 intro n hn
 unfold nsC at hn
 have h1:=c.w
 have h2:=c.h
 simp only [List.mem_cons] at hn
 rcases hn with rfl | rfl | rfl | rfl | hn
 ·exact c.x
 ·exact c.y
 ·unfold Bd;omega
 ·unfold Bd;omega
 ·exact hv n hn
theorem Zln{k:Nat}{T:D}(hk:k≤3)(h:Tr k T):∃cs,Cs k T cs:=by
 obtain ⟨ax,ay,aw,ah,bx,bY,bw,bh,cx,cy,cw,ch,av,bv,cv,rfl,ca,cb,cc,la,lb,lc,va,vb,vc⟩:=h
 refine ⟨[(ax,ay,aw,ah,av),(bx,bY,bw,bh,bv),(cx,cy,cw,ch,cv)],rfl,rfl,fun c hc=>?_⟩
 simp only [List.mem_cons,List.not_mem_nil,or_false] at hc
 rcases hc with rfl | rfl | rfl
 ·exact ⟨la,hk,Zoc ca va⟩
 ·exact ⟨lb,hk,Zoc cb vb⟩
 ·exact ⟨lc,hk,Zoc cc vc⟩
theorem C5k.n7{k:Nat}{c:C5}(h:C5k k c):(nsOf c).length=4+k:=by
 have:=h.l
 unfold nsOf nsC
 simp only [List.length_cons]
 omega
def wdO(c:C5):List (List Nat):=wdC (nsOf c)
theorem Zit(c:C5):wdO c≠[]:=by simp [wdO,wdC]
theorem C5k.tot{k:Nat}{c:C5}(h:C5k k c):totL 1 (wdO c)≤80:=ZkC (by rw [h.n7];have:=h.k3;omega) h.b
def rowW(K:Kd)(cs:List C5):List (List Nat):=hdW K++cs.flatMap wdO
theorem ZdJ{Φ:D→Prop}{k:Nat}{K:Kd}{T:D}{cs:List C5}(hk:KOk k K)(h:Cs k T cs)(q:Φ (S (Zaz [32] (rowW K cs)))):Tl (Za8 [thD K T]) Φ:=by
 obtain ⟨rfl,l3,hb⟩:=h
 have t4:=Zet hk
 have hl:(hdW K).length≤3:=by cases K<;>simp [hdW]
 unfold Za8
 walk_at "w"
 refine w_sD ?_
 walk_at "w"
 refine ⟨_,rfl,?_⟩
 walk_at "w"
 refine ZhS hk ?_
 walk_at "w"
 refine Zay (fTri _ _) ?_
 walk_at "w"
 refine ⟨by simp;omega,?_⟩
 refine ZbL (fun c=>S (Zaz [32] (wdO c))) (fun c hc=>?_) ?_
 ·walk_at "w"
  have:=hb c hc
  exact ZjR (by rw [this.l];exact this.k3) this.b rfl
 rw [litB]
 refine Zht (by simp;omega) ?_
 rw [show (hdW K).map S++cs.map (fun c=>S (Zaz [32] (wdO c)))=(hdW K++cs.map fun c=>Zaz [32] (wdO c)).map S by simp]
 refine ZdW ?_ ?_
 ·unfold totL at t4 ⊢
  have t5:totL 1 (cs.map fun c=>Zaz [32] (wdO c))≤3*81:=by
   refine Nat.le_trans (ZdZ (B:=80) fun l hl=>?_) (by rw [List.length_map];omega)
   obtain ⟨c,hc,rfl⟩:=List.mem_map.mp hl
   exact Nat.le_trans (Za3 _) (hb c hc).tot
  unfold totL at t5
  simp only [List.map_append,List.sum_append,List.length_append,List.length_singleton,Nat.mul_one] at t4 t5 ⊢
  omega
 ·walk_at "w"
  rw [Zdw wdO Zit cs (Zfp K)]
  exact q
theorem ZoL:Str.ofString " / "=mkS [32,47,32]:=by decide +kernel
def rowP(ws:List (List Nat))(cs:List C5):List Nat:=Zaz [32] (ws++cs.flatMap wdO)
theorem Zkf{ws:List (List Nat)}(hw:ws≠[])(cs:List C5)(c:C5):rowP ws cs++[32,47,32]++Zaz [32] ((nsOf c).map tI)=rowP ws (cs++[c]):=by
 unfold rowP
 rw [List.flatMap_append,←List.append_assoc,List.flatMap_cons,List.flatMap_nil,List.append_nil]
 rw [ZbE (Zit c) (by simp [hw])]
 unfold wdO wdC
 rw [Zb0 (by simp [nsOf,nsC])]
 simp [List.append_assoc]
theorem Ze0{Φ:D→Prop}{k:Nat}{ws:List (List Nat)}{T:D}{cs:List C5}(hw:ws≠[])(ht:totL 1 ws≤17000)(h:Cs k T cs)(q:Φ (S (Zaz [32] (ws++cs.flatMap wdO)))):Tl (ZcC [S (Zaz [32] ws),T]) Φ:=by
 obtain ⟨rfl,l3,hb⟩:=h
 have hrow:∀p:List C5,(∀c∈p,C5k k c)→p.length≤3→(rowP ws p).length≤18000:=by
  intro p hp lp
  have e:rowP ws p=Zaz [32] (ws++p.map fun c=>Zaz [32] (wdO c)):=(Zdw wdO Zit p hw).symm
  rw [e]
  refine Nat.le_trans (Za3 _) ?_
  have t5:totL 1 (p.map fun c=>Zaz [32] (wdO c))≤3*81:=by
   refine Nat.le_trans (ZdZ (B:=80) fun l hl=>?_) (by rw [List.length_map];omega)
   obtain ⟨c,hc,rfl⟩:=List.mem_map.mp hl
   exact Nat.le_trans (Za3 _) (hp c hc).tot
  unfold totL at t5 ht ⊢
  simp only [List.map_append,List.sum_append,List.length_append,List.length_singleton,Nat.mul_one] at ht t5 ⊢
  omega
 unfold ZcC
 walk_at "w"
 refine ZoB (enc:=encC) (fun p ρ=>∃v3:Cl,ρ=[.im (S (Zaz [32] ws)),.im (.tup (cs.map encC)),.im (S (rowP ws p)),v3]) ⟨.no,by rw [show rowP ws []=Zaz [32] ws by simp [rowP]]⟩ ?_ ?_
 ·rintro p c r e ρ ⟨v3,rfl⟩
  have hc:=hb c (by rw [e];simp)
  have hp:∀c∈p,C5k k c:=fun c hc=>hb c (by rw [e];exact List.mem_append_left _ hc)
  have lp:p.length≤2:=by
   have:=congrArg List.length e
   simp at this
   omega
  have hl:=hrow p hp (by omega)
  walk_at "w"
  rw [ZoL]
  refine ZbG (by simp;omega) ?_
  walk_at "w"
  refine w_sD ?_
  walk_at "w"
  refine ⟨_,rfl,?_⟩
  unfold encC cor
  walk_at "w"
  rw [show cutL [D.int c.1,D.int c.2.1,D.int c.2.2.1,D.int c.2.2.2.1,D.tup (List.map D.int c.2.2.2.2)] none (some 4)=[D.int c.1,D.int c.2.1,D.int c.2.2.1,D.int c.2.2.2.1] from rfl]
  refine Zht (by have:=hc.l;have:=hc.k3;simp;omega) ?_
  rw [show [D.int c.1,D.int c.2.1,D.int c.2.2.1,D.int c.2.2.2.1]++c.2.2.2.2.map D.int=(nsOf c).map D.int from rfl]
  walk_at "w"
  have n7:=hc.n7
  have k3:=hc.k3
  refine ⟨by simp;omega,?_⟩
  refine ZbL (fun n=>S (tI n)) (fun n hn=>?_) ?_
  ·walk_at "w"
   have:=hc.b n hn
   exact Zha (k:=64) (by unfold Bd at this;exact Sm.of64 (by omega) (by omega)) (by decide) rfl
  rw [litB,show (nsOf c).map (fun n=>S (tI n))=((nsOf c).map tI).map S by rw [List.map_map];rfl]
  have tot:totL 1 ((nsOf c).map tI)≤80:=by
   have:=hc.tot
   unfold wdO wdC totL at this
   unfold totL
   simp only [List.map_cons,List.sum_cons,List.length_cons,List.length_map] at this ⊢
   omega
  refine ZdW (by rw [List.length_singleton];omega) ?_
  have jl:=Nat.le_trans (Za3 (s:=[32]) ((nsOf c).map tI)) tot
  walk_at "w"
  refine ZbG (by simp;omega) ?_
  rw [Zkf hw]
  walk_at "w"
  exact ⟨_,rfl,_,rfl⟩
 ·rintro ρ ⟨v3,rfl⟩
  walk_at "w"
  exact q
theorem ZkI{Φ:D→Prop}{it:MI}{own:Nat}{cap:List Nat}{g:MG}{t:MB}{e:ME}{ρ:Ev}(h:Tl (it ρ) fun xs=>xs.length≤1000000∧Tl (Zao g t e (noA own (capD ρ cap)) xs) fun ys=>Φ (.lst ys)):Tl (Zi4 it own cap g t e ρ) Φ:=by
 obtain ⟨xs,e1,hl,ys,e2,q⟩:=h
 refine Zay ?_ q
 unfold Zi4
 rw [e1]
 show (if xs.length≤LIM then (Zao g t e (noA own (capD ρ cap)) xs).bind (fun ys=>Res.ok (D.lst ys)) else .bad)=_
 rw [if_pos (show xs.length≤LIM from hl),e2]
 rfl
def nsW(c:C5):List (List Nat):=(nsOf c).map tI
theorem ZoK(c:C5):wdO c=[47]::nsW c:=rfl
section
variable{nt:MB}{ρ:Ev}
theorem ZhR:∀(l:List (List Nat)) (rest:List D) (gs:List (List D)) (g:List D),(∀w∈l,nt ((ρ.set 1 .no).set 2 (.im (S w)))=.ok false)→Zca 1 2 nt ρ (l.map S++rest) gs g=Zca 1 2 nt ρ rest gs (g++l.map S)
 | [],rest,gs,g,_=>by simp
 | w::r,rest,gs,g,h=>by
  show Zca 1 2 nt ρ (S w::(r.map S++rest)) gs g=_
  rw [Zca,h w List.mem_cons_self]
  show Zca 1 2 nt ρ (r.map S++rest) gs (g++[S w])=_
  rw [ZhR r rest gs (g++[S w]) fun u hu=>h u (List.mem_cons_of_mem _ hu)]
  simp
theorem Zjv(hs:nt ((ρ.set 1 .no).set 2 (.im (S [47])))=.ok true):∀(cs:List C5) (gs:List (List D)) (g:List D),(∀c∈cs,∀w∈nsW c,nt ((ρ.set 1 .no).set 2 (.im (S w)))=.ok false)→Zca 1 2 nt ρ ((cs.flatMap wdO).map S) gs g=.ok (gs++[g]++cs.map fun c=>(nsW c).map S)
 | [],gs,g,_=>by simp [Zca]
 | c::r,gs,g,h=>by
  have e:((c::r).flatMap wdO).map S=S [47]::((nsW c).map S++(r.flatMap wdO).map S):=by rw [List.flatMap_cons,ZoK];simp
  rw [e,Zca,hs]
  show Zca 1 2 nt ρ ((nsW c).map S++(r.flatMap wdO).map S) (gs++[g]) []=_
  rw [ZhR _ _ _ _ (h c List.mem_cons_self),Zjv hs r _ _ fun c hc=>h c (List.mem_cons_of_mem _ hc)]
  simp
end
theorem ZlE{Φ:D→Prop}{ws:List (List Nat)}{cs:List C5}(hw:∀w∈ws,Asc w∧w≠[47])(hl:(ws++cs.flatMap wdO).length<1000)(q:Φ (.lst (.lst (ws.map S)::cs.map fun c=>.lst ((nsW c).map S)))):Tl (Zb4 [.lst ((ws++cs.flatMap wdO).map S)]) Φ:=by
 have test:∀w:List Nat,Asc w→trb (o2 dEq (v 2) (c (.str "/"))) (([Cl.im (.lst ((ws++cs.flatMap wdO).map S)),.no,.no].set 1 .no).set 2 (.im (S w)))=.ok (decide (w=[47])):=by
  intro w hw
  refine Tl.eq ?_
  dsimp only [List.set_cons_zero,List.set_cons_succ]
  walk_at "w"
  rw [litS]
  refine Zev hw (Zav rfl) ?_
  walk_at "w"
 have run:grp 1 2 0 (trb (o2 dEq (v 2) (c (.str "/")))) [Cl.im (.lst ((ws++cs.flatMap wdO).map S)),.no,.no]=.ok (.rt (.lst (.lst (ws.map S)::cs.map fun c=>.lst ((nsW c).map S)))):=by
  unfold grp
  show (if (true&&decide (1<3)&&decide (2<3)&&decide (((ws++cs.flatMap wdO).map S).length<1000))=true then (Zca 1 2 (trb (o2 dEq (v 2) (c (.str "/")))) [Cl.im (.lst ((ws++cs.flatMap wdO).map S)),.no,.no] ((ws++cs.flatMap wdO).map S) [] []).bind fun gs=>Res.ok (Fl.rt (D.lst (gs.map D.lst))) else Res.bad)=_
  rw [List.length_map,decide_eq_true hl]
  show (Zca 1 2 (trb (o2 dEq (v 2) (c (.str "/")))) [Cl.im (.lst ((ws++cs.flatMap wdO).map S)),.no,.no] ((ws++cs.flatMap wdO).map S) [] []).bind (fun gs=>Res.ok (Fl.rt (D.lst (gs.map D.lst))))=_
  have e:Zca 1 2 (trb (o2 dEq (v 2) (c (.str "/")))) [Cl.im (.lst ((ws++cs.flatMap wdO).map S)),.no,.no] ((ws++cs.flatMap wdO).map S) [] []=.ok (ws.map S::cs.map fun c=>(nsW c).map S):=by
   have e1:(ws++cs.flatMap wdO).map S=ws.map S++(cs.flatMap wdO).map S:=List.map_append
   conv=>lhs;arg 5;rw [e1]
   rw [ZhR ws _ _ _ fun w h=>by rw [test w (hw w h).1,decide_eq_false (hw w h).2]]
   rw [Zjv (test [47] (Zav rfl)) cs _ _ fun c hc w hm=>by
    obtain ⟨n,hn,rfl⟩:=List.mem_map.mp hm
    rw [test _ (ZiE n),decide_eq_false fun e=>by
     have:=Zd4 (n:=n) (c:=47) (by rw [e];exact List.mem_cons_self)
     omega]]
   simp
  rw [e]
  show Res.ok (Fl.rt (D.lst ((ws.map S::cs.map fun c=>(nsW c).map S).map D.lst)))=_
  rw [List.map_cons,List.map_map]
  rfl
 unfold Zb4
 walk_at "w"
 refine Zay run ?_
 walk_at "w"
 exact q
theorem cut4(a b c d:D)(r:List D):cutL (a::b::c::d::r) (some 4) none=r:=by
 unfold cutL cutAt
 have:min (4:Int).toNat (a::b::c::d::r).length=4:=by simp
 simp only []
 rw [if_neg (by decide),this]
 simp
theorem Zkg{Φ:D→Prop}{k:Nat}{c:C5}(h:C5k k c)(q:Φ (encC c)):Tl (Zbr [.lst ((nsW c).map S)]) Φ:=by
 have n7:=h.n7
 have k3:=h.k3
 have hb:=h.b
 unfold Zbr
 walk_at "w"
 rw [show ((nsW c).map S).length=4+k by rw [List.length_map];unfold nsW;rw [List.length_map];exact n7]
 walk_at "w"
 refine ⟨by omega,?_⟩
 rw [show (nsW c).map S=(nsOf c).map (fun n=>S (tI n)) by unfold nsW;rw [List.map_map];rfl]
 refine ZbL (fun n=>D.int n) (fun n hn=>?_) ?_
 ·walk_at "w"
  have:=hb n hn
  exact Zeh (by unfold Bd at this;omega) rfl
 rw [show (nsOf c).map (fun n=>D.int n)=.int c.1::.int c.2.1::.int c.2.2.1::.int c.2.2.2.1::c.2.2.2.2.map .int from rfl]
 walk_at "w"
 rw [cut4]
 walk_at "w"
 exact q
theorem ZmC:∀as bs:List (List Nat),eqDs (as.map S) (bs.map S)=decide (as=bs)
 | [],[]=>by simp [eqDs]
 | [],_::_=>by simp [eqDs]
 | _::_,[]=>by simp [eqDs]
 | a::as,b::bs=>by
  show (eqD (S a) (S b)&&eqDs (as.map S) (bs.map S))=_
  rw [ZmC as bs]
  show ((mkS a==mkS b)&&_)=_
  rw [ZhX,Bool.eq_iff_iff]
  simp
theorem ZiL{as:List (List Nat)}(h:∀a∈as,Asc a):∀k,ZaF k (as.map S)=true:=by
 intro k
 induction as with
 | nil=>simp [ZaF]
 | cons a r ih =>
  show (plain k (S a)&&ZaF k (r.map S))=true
  rw [ih fun x hx=>h x (List.mem_cons_of_mem _ hx),Bool.and_true]
  cases k<;>exact (h a List.mem_cons_self).pl
theorem ZmF{Φ:D→Prop}{as bs:List (List Nat)}(ha:∀a∈as,Asc a)(hb:∀b∈bs,Asc b)(h:Φ (.bl (decide (as=bs)))):Tl (dEq (.lst (as.map S)) (.lst (bs.map S))) Φ:=by
 refine Zay (x:=.bl (decide (as=bs))) ?_ h
 unfold dEq
 have e1:plain 50 (.lst (as.map S))=true:=ZiL ha 49
 have e2:plain 50 (.lst (bs.map S))=true:=ZiL hb 49
 rw [e1,e2]
 show Res.ok (D.bl (eqDs (as.map S) (bs.map S)))=_
 rw [ZmC]
theorem Zkh{Φ:D→Prop}{h w:Nat}{P:Nat→Nat→Rat}(hh:Ct h)(hw:Ct w)(hP:∀i,i<h→∀j,j<w→B30 (P i j))(q:Φ (patD h w P)):Tl (Zbi [S (patT h w P)]) Φ:=by
 have h1:=hh.le
 have w1:=hw.le
 have pt:=Zd2 h1.2 w1.2 hP
 have pl:=Nat.le_trans (Za3 (s:=[59]) ((List.range h).map fun i=>rowT w (P i))) pt
 unfold Zbi
 walk_at "w"
 refine ZkI ?_
 walk_at "w"
 refine w_sD ?_
 walk_at "w"
 refine ⟨_,rfl,?_⟩
 walk_at "w"
 rw [Zn6]
 refine ZgZ (by show (patT h w P).length≤_;exact Nat.le_trans pl (by decide)) ?_
 have e1:Zbe 59 (patT h w P)=(List.range h).map fun i=>rowT w (P i):=by
  refine Zbl (by simp;omega) fun r hr=>?_
  obtain ⟨i,_,rfl⟩:=List.mem_map.mp hr
  intro hm
  rcases ZcB hm with hm | ⟨l,hl,hm⟩
  ·simp at hm
  ·obtain ⟨j,_,rfl⟩:=List.mem_map.mp hl
   have:=Zfd hm
   omega
 rw [e1,List.map_map]
 walk_at "w"
 refine ⟨by simp;omega,?_⟩
 refine ZbL (enc:=(fun l=>D.str (mkS l)) ∘ fun i=>rowT w (P i)) (fun i=>rowD w (P i)) (fun i hi=>?_) ?_
 ·have hi:=List.mem_range.mp hi
  have rl:=Nat.le_trans (Za3 (s:=[44]) ((List.range w).map fun j=>fT (P i j))) (ZeW w1.2 (hP i hi))
  dsimp only [Function.comp]
  walk_at "w"
  refine w_sD ?_
  walk_at "w"
  refine ⟨_,rfl,?_⟩
  walk_at "w"
  rw [litC]
  refine ZgZ (by show (rowT w (P i)).length≤_;exact Nat.le_trans rl (by decide)) ?_
  have e2:Zbe 44 (rowT w (P i))=(List.range w).map fun j=>fT (P i j):=by
   refine Zbl (by simp;omega) fun r hr=>?_
   obtain ⟨j,_,rfl⟩:=List.mem_map.mp hr
   intro hm
   have:=Zfd hm
   omega
  rw [e2,List.map_map]
  walk_at "w"
  refine ⟨by simp;omega,?_⟩
  refine ZbL (enc:=(fun l=>D.str (mkS l)) ∘ fun j=>fT (P i j)) (fun j=>frD (P i j)) (fun j hj=>?_) ?_
  ·dsimp only [Function.comp]
   walk_at "w"
   exact Zdu (hP i hi j (List.mem_range.mp hj)) rfl
  ·rfl
 ·walk_at "w"
  exact q
theorem Zih{h w:Nat}{P:Nat→Nat→Rat}{c:Nat}(hc:c∈patT h w P):c=44∨c=45∨c=47∨c=59∨(48≤c∧c≤57):=by
 rcases ZcB hc with hm | ⟨l,hl,hm⟩
 ·simp at hm;omega
 ·obtain ⟨i,_,rfl⟩:=List.mem_map.mp hl
  rcases ZcB hm with hm | ⟨l,hl,hm⟩
  ·simp at hm;omega
  ·obtain ⟨j,_,rfl⟩:=List.mem_map.mp hl
   have:=Zfd hm
   omega
theorem Zlj(h w:Nat)(P:Nat→Nat→Rat):Asc (patT h w P):=fun c hc=>by have:=Zih hc;omega
theorem Zob{h w:Nat}{P:Nat→Nat→Rat}(hh:0<h)(hw:0<w):patT h w P≠[47]:=by
 intro e
 have e1:Zbe 59 (patT h w P)=(List.range h).map fun i=>rowT w (P i):=by
  refine Zbl (by simp;omega) fun r hr=>?_
  obtain ⟨i,_,rfl⟩:=List.mem_map.mp hr
  intro hm
  rcases ZcB hm with hm | ⟨l,hl,hm⟩
  ·simp at hm
  ·obtain ⟨j,_,rfl⟩:=List.mem_map.mp hl
   have:=Zfd hm
   omega
 rw [e,show Zbe 59 [47]=[[47]] by decide] at e1
 have h1:h=1:=by
  have:=congrArg List.length e1
  simpa using this.symm
 subst h1
 have e2:rowT w (P 0)=[47]:=by simpa using e1.symm
 have e3:Zbe 44 (rowT w (P 0))=(List.range w).map fun j=>fT (P 0 j):=by
  refine Zbl (by simp;omega) fun r hr=>?_
  obtain ⟨j,_,rfl⟩:=List.mem_map.mp hr
  intro hm
  have:=Zfd hm
  omega
 rw [e2,show Zbe 44 [47]=[[47]] by decide] at e3
 have w1:w=1:=by
  have:=congrArg List.length e3
  simpa using this.symm
 subst w1
 exact ZpV (q:=P 0 0) (by simpa using e3.symm)
theorem ZhD{k:Nat}{K:Kd}(hk:KOk k K):∀w∈hdW K,Asc w∧w≠[47]∧32∉w:=by
 have f:∀q:Rat,Asc (fT q)∧fT q≠[47]∧32∉fT q:=fun q=>⟨ZmG q,ZpV,fun h=>by have:=Zfd h;omega⟩
 intro w hw
 cases K with
 | pl q =>
  simp only [hdW,List.mem_cons,List.not_mem_nil,or_false] at hw
  rcases hw with rfl | rfl
  ·exact ⟨Zav rfl,by decide,by decide⟩
  ·exact f _
 | sh =>
  simp only [hdW,List.mem_cons,List.not_mem_nil,or_false] at hw
  subst hw
  exact ⟨Zav rfl,by decide,by decide⟩
 | pa h w P =>
  obtain ⟨k2,hh,hw',hP⟩:=hk
  simp only [hdW,List.mem_cons,List.not_mem_nil,or_false] at hw
  rcases hw with rfl | rfl
  ·exact ⟨Zav rfl,by decide,by decide⟩
  ·exact ⟨Zlj _ _ _,Zob (by have:=hh.le;omega) (by have:=hw'.le;omega),fun h=>by have:=Zih h;omega⟩
 | gl q r =>
  simp only [hdW,List.mem_cons,List.not_mem_nil,or_false] at hw
  rcases hw with rfl | rfl | rfl
  ·exact ⟨Zav rfl,by decide,by decide⟩
  ·exact f _
  ·exact f _
theorem Zg2{Φ:D→Prop}{a b:List Nat}(ha:Asc a)(hb:Asc b)(h:Φ (.bl (decide (a=b)))):Tl (dEq (.lst [S a]) (.lst [S b])) Φ:=by
 refine ZmF (as:=[a]) (bs:=[b]) (by simpa using ha) (by simpa using hb) ?_
 rw [show decide ([a]=[b])=decide (a=b) by simp]
 exact h
theorem ZpH{Φ:D→Prop}{as:List D}{b:List Nat}{ws:List (List Nat)}(e:as=ws.map S)(hw:∀a∈ws,Asc a)(hb:Asc b)(hne:ws≠[b])(h:Φ (.bl false)):Tl (dEq (.lst as) (.lst [S b])) Φ:=by
 subst e
 refine ZmF (bs:=[b]) hw (by simpa using hb) ?_
 rw [decide_eq_false hne]
 exact h
theorem cut1(a:D)(r:List D):cutL (a::r) none (some 1)=[a]:=by
 unfold cutL cutAt
 have:min (1:Int).toNat (a::r).length=1:=by simp
 simp only []
 rw [if_neg (by decide),this]
 simp
theorem Zky{Φ:D→Prop}{k:Nat}{K:Kd}{T:D}(hk:KOk k K)(k3:k≤3)(ht:Tr k T)(q:Φ (thD K T)):Tl (ZcG [.lst ((hdW K).map S),T]) Φ:=by
 have ok:=fun w h=>(ZhD hk w h).1
 unfold ZcG
 cases K with
 | pl c0 =>
  show Tl (fn 2 _ [.lst [S lPl,S (fT c0)],T]) Φ
  walk_at "w"
  rw [Zhc,cut1]
  refine Zg2 (Zav rfl) (Zav rfl) ?_
  walk_at "w"
  refine ZdB ?_
  walk_at "w"
  refine Zdu hk ?_
  walk_at "w"
  refine ⟨_,Zgy k3 ht,?_⟩
  walk_at "w"
  exact q
 | sh =>
  show Tl (fn 2 _ [.lst [S lSh],T]) Φ
  walk_at "w"
  rw [Zhc,cut1]
  refine Zg2 (Zav rfl) (Zav rfl) ?_
  rw [decide_eq_false (show lSh≠lPl by decide)]
  walk_at "w"
  rw [Zjn]
  refine Zg2 (Zav rfl) (Zav rfl) ?_
  walk_at "w"
  refine ZdB ?_
  walk_at "w"
  refine ⟨_,Zij k3 ht hk,?_⟩
  walk_at "w"
  exact q
 | pa h w P =>
  obtain ⟨k2,hh,hw,hP⟩:=hk
  show Tl (fn 2 _ [.lst [S lPa,S (patT h w P)],T]) Φ
  walk_at "w"
  rw [Zhc,cut1]
  refine Zg2 (Zav rfl) (Zav rfl) ?_
  rw [decide_eq_false (show lPa≠lPl by decide)]
  walk_at "w"
  rw [Zjn]
  refine ZpH (ws:=[lPa,patT h w P]) rfl ok (Zav rfl) (by simp) ?_
  walk_at "w"
  rw [Zj0,cut1]
  refine Zg2 (Zav rfl) (Zav rfl) ?_
  walk_at "w"
  refine ZdB ?_
  walk_at "w"
  refine Zkh hh hw hP ?_
  walk_at "w"
  refine ⟨_,ZmD k3 ht k2 hh hw,?_⟩
  walk_at "w"
  exact q
 | gl c0 r =>
  obtain ⟨h1,h2,h3,h4⟩:=hk
  show Tl (fn 2 _ [.lst [S lGl,S (fT c0),S (fT r)],T]) Φ
  walk_at "w"
  rw [Zhc,cut1]
  refine Zg2 (Zav rfl) (Zav rfl) ?_
  rw [decide_eq_false (show lGl≠lPl by decide)]
  walk_at "w"
  rw [Zjn]
  refine ZpH (ws:=[lGl,fT c0,fT r]) rfl ok (Zav rfl) (by simp) ?_
  walk_at "w"
  rw [Zj0,cut1]
  refine Zg2 (Zav rfl) (Zav rfl) ?_
  rw [decide_eq_false (show lGl≠lPa by decide)]
  walk_at "w"
  rw [Znf,cut1]
  refine Zg2 (Zav rfl) (Zav rfl) ?_
  walk_at "w"
  refine ZdB ?_
  walk_at "w"
  refine Zdu h1 ?_
  walk_at "w"
  refine Zdu h2 ?_
  walk_at "w"
  refine ⟨_,ZjE k3 ht h3 h4,?_⟩
  walk_at "w"
  exact q
theorem ZqB(a:D)(r:List D):cutL (a::r) (some 1) none=r:=by
 unfold cutL cutAt
 have:min (1:Int).toNat (a::r).length=1:=by simp
 simp only []
 rw [if_neg (by decide),this]
 simp
theorem Zlr{k:Nat}{K:Kd}{T:D}{cs:List C5}(h:Cs k T cs):(rowW K cs).length≤30:=by
 obtain ⟨_,l3,hb⟩:=h
 have hl:(hdW K).length≤3:=by cases K<;>simp [hdW]
 have key:∀l:List C5,(∀c∈l,C5k k c)→(l.flatMap wdO).length≤l.length*8:=by
  intro l
  induction l with
  | nil=>intro _;simp
  | cons c r ih =>
   intro hc
   have:=ih fun d hd=>hc d (List.mem_cons_of_mem _ hd)
   have c1:=hc c List.mem_cons_self
   have n7:=c1.n7
   have k3:=c1.k3
   rw [List.flatMap_cons,List.length_append,List.length_cons]
   have:(wdO c).length=(nsOf c).length+1:=by simp [wdO,wdC]
   omega
 have:=key cs hb
 unfold rowW
 rw [List.length_append]
 omega
theorem ZlC{k:Nat}{K:Kd}{T:D}{cs:List C5}(hk:KOk k K)(h:Cs k T cs):(Zaz [32] (rowW K cs)).length≤18000:=by
 obtain ⟨_,l3,hb⟩:=h
 have t4:=Zet hk
 have e:Zaz [32] (rowW K cs)=Zaz [32] (hdW K++cs.map fun c=>Zaz [32] (wdO c)):=(Zdw wdO Zit cs (Zfp K)).symm
 rw [e]
 refine Nat.le_trans (Za3 _) ?_
 have t5:totL 1 (cs.map fun c=>Zaz [32] (wdO c))≤3*81:=by
  refine Nat.le_trans (ZdZ (B:=80) fun l hl=>?_) (by rw [List.length_map];omega)
  obtain ⟨c,hc,rfl⟩:=List.mem_map.mp hl
  exact Nat.le_trans (Za3 _) (hb c hc).tot
 unfold totL at t5 t4 ⊢
 simp only [List.map_append,List.sum_append,List.length_append,List.length_singleton,Nat.mul_one] at t4 t5 ⊢
 omega
theorem ZmI{k:Nat}{K:Kd}{cs:List C5}(hk:KOk k K):∀w∈rowW K cs,32∉w:=by
 intro w hw
 rcases List.mem_append.mp hw with hw | hw
 ·exact (ZhD hk w hw).2.2
 ·obtain ⟨c,_,hw⟩:=List.mem_flatMap.mp hw
  rcases List.mem_cons.mp hw with rfl | hw
  ·decide
  ·obtain ⟨n,_,rfl⟩:=List.mem_map.mp hw
   intro hm
   have:=Zd4 hm
   omega
theorem ZhU{Φ:D→Prop}{k:Nat}{K:Kd}{T:D}{cs:List C5}(hk:KOk k K)(ht:Tr k T)(h:Cs k T cs)(q:Φ (thD K T)):Tl (ZbP [S (Zaz [32] (rowW K cs))]) Φ:=by
 have rl:=ZlC hk h
 have nl:=Zlr (K:=K) h
 have r32:=ZmI (cs:=cs) hk
 have l3:=h.l
 have hb:=h.b
 unfold ZbP
 walk_at "w"
 unfold Zcg
 walk_at "w"
 refine w_sD ?_
 walk_at "w"
 refine ⟨_,rfl,?_⟩
 walk_at "w"
 rw [litB]
 refine ZgZ (by omega) ?_
 rw [Zbl (by unfold rowW;simp [Zfp]) r32]
 walk_at "w"
 unfold rowW at nl ⊢
 refine ZlE (fun w hw=>⟨(ZhD hk w hw).1,(ZhD hk w hw).2.1⟩) (by omega) ?_
 walk_at "w"
 rw [List.length_cons,List.length_map,l3]
 walk_at "w"
 refine ZkI ?_
 walk_at "w"
 rw [ZqB]
 walk_at "w"
 refine ⟨by simp;omega,?_⟩
 refine ZbL (fun c=>encC c) (fun c hc=>?_) ?_
 ·walk_at "w"
  exact Zkg (hb c hc) rfl
 walk_at "w"
 rw [←h.e]
 refine Zky hk ?_ ht ?_
 ·obtain ⟨c,hc⟩ : ∃c,c∈cs:=by
   cases cs with
   | nil=>simp at l3
   | cons c r=>exact ⟨c,List.mem_cons_self⟩
  exact (hb c hc).k3
 walk_at "w"
 exact q
def kn:Kd→Int
 | .pl _=>0
 | .sh=>1
 | .pa _ _ _=>2
 | .gl _ _=>3
theorem ZkD(k:Nat):∀ns:List Int,ZaF k (ns.map D.int)=true
 | []=>rfl
 | n::r=>by show (plain k (.int n)&&ZaF k (r.map D.int))=true;rw [ZkD k r,Bool.and_true];cases k<;>rfl
theorem ZjJ(k:Nat)(x y w h:Int)(vs:List Int):plain (k+3) (cor x y w h vs)=true:=by
 show (true&&(true&&(true&&(true&&(ZaF (k+1) (vs.map .int)&&true)))))=true
 rw [ZkD];rfl
theorem ZlM{k:Nat}{T:D}(h:Tr k T):plain 50 T=true:=by
 obtain ⟨ax,ay,aw,ah,bx,bY,bw,bh,cx,cy,cw,ch,av,bv,cv,rfl,_⟩:=h
 show (plain 49 (cor ax ay aw ah av)&&(plain 49 (cor bx bY bw bh bv)&&(plain 49 (cor cx cy cw ch cv)&&true)))=true
 rw [ZjJ,ZjJ,ZjJ];rfl
theorem isTh(K:Kd)(T:D):bIsO tabO [thD K T,.cls "Thing"]=.ok (.bl true):=by cases K<;>rfl
theorem is0(K:Kd)(T:D):bIsO tabO [thD K T,.cls "Plain"]=.ok (.bl (decide ((0:Int)=kn K))):=by cases K<;>rfl
theorem is1(K:Kd)(T:D):bIsO tabO [thD K T,.cls "Shaded"]=.ok (.bl (decide ((1:Int)=kn K))):=by cases K<;>rfl
theorem is2(K:Kd)(T:D):bIsO tabO [thD K T,.cls "Patterned"]=.ok (.bl (decide ((2:Int)=kn K))):=by cases K<;>rfl
theorem is3(K:Kd)(T:D):bIsO tabO [thD K T,.cls "Glass"]=.ok (.bl (decide ((3:Int)=kn K))):=by cases K<;>rfl
def ksD(K:Kd):D:=.lst [.bl (decide ((0:Int)=kn K)),.bl (decide ((1:Int)=kn K)),.bl (decide ((2:Int)=kn K)),.bl (decide ((3:Int)=kn K))]
theorem Zno{Φ:D→Prop}{K:Kd}{T:D}(q:Φ (ksD K)):Tl (ZbI [thD K T]) Φ:=by
 unfold ZbI
 walk_at "w"
 refine Zay (is0 K T) ?_
 walk_at "w"
 refine Zay (is1 K T) ?_
 walk_at "w"
 refine Zay (is2 K T) ?_
 walk_at "w"
 refine Zay (is3 K T) ?_
 walk_at "w"
 exact q
def Sid:Kd→D→D→D→Prop
 | .pl q,col,_,_=>col=frD q
 | .sh,_,_,_=>True
 | .pa h w P,_,pt,_=>pt=patD h w P
 | .gl q r,col,_,pr=>col=frD q∧pr=frD r
theorem ZmS{Φ:D→Prop}{k:Nat}{K:Kd}{T col pt pr:D}(ht:Tr k T)(hs:Sid K col pt pr)(q:Φ (.bl true)):Tl (ZbD [thD K T,.int (kn K),T,col,pt,pr]) Φ:=by
 have tp:=ZlM ht
 unfold ZbD
 walk_at "w"
 refine Zay (isTh K T) ?_
 walk_at "w"
 refine Zno ?_
 walk_at "w"
 refine ⟨by decide,?_⟩
 rw [show Zbt 0 (Int.toNat 4)=[(0:Int),1,2,3].map D.int from rfl]
 refine ZbL (fun n:Int=>D.bl (decide (n=kn K))) (fun n hn=>?_) ?_
 ·walk_at "w"
 refine Zjb (x:=ksD K) rfl ?_
 walk_at "w"
 refine Zay (fTri K T) ?_
 walk_at "w"
 refine Zjb tp ?_
 cases K with
 | pl c0 =>
  cases hs
  unfold kn thD
  walk_at "w"
  refine Zay (x:=.bl true) (show dIn (.int 0) (.tup [.int 0,.int 3])=_ from rfl) ?_
  walk_at "w"
  refine Zay (fC1 _ _) ?_
  walk_at "w"
  refine Zjb (ZeX _ _) ?_
  walk_at "w"
  exact q
 | sh =>
  unfold kn thD
  walk_at "w"
  refine Zay (x:=.bl false) (show dIn (.int 1) (.tup [.int 0,.int 3])=_ from rfl) ?_
  walk_at "w"
  exact q
 | pa h w P =>
  cases hs
  unfold kn thD
  walk_at "w"
  refine Zay (x:=.bl false) (show dIn (.int 2) (.tup [.int 0,.int 3])=_ from rfl) ?_
  walk_at "w"
  refine Zay (fN3 _ _) ?_
  walk_at "w"
  refine Zlz (Zjt _ _ _) ?_
  walk_at "w"
  exact q
 | gl c0 r =>
  obtain ⟨rfl,rfl⟩:=hs
  unfold kn thD
  walk_at "w"
  refine Zay (x:=.bl true) (show dIn (.int 3) (.tup [.int 0,.int 3])=_ from rfl) ?_
  walk_at "w"
  refine Zay (fC4 _ _ _) ?_
  walk_at "w"
  refine Zjb (ZeX _ _) ?_
  walk_at "w"
  refine Zay (fP4 _ _ _) ?_
  walk_at "w"
  refine Zlz (ZeX _ _) ?_
  walk_at "w"
  exact q
theorem Zm6{k:Nat}{K:Kd}{cs:List C5}(hk:KOk k K):Asc (Zaz [32] (rowW K cs)):=by
 intro c hc
 rcases ZcB hc with hm | ⟨l,hl,hm⟩
 ·simp at hm;omega
 ·rcases List.mem_append.mp hl with hl | hl
  ·exact (ZhD hk l hl).1 c hm
  ·obtain ⟨d,_,hw⟩:=List.mem_flatMap.mp hl
   rcases List.mem_cons.mp hw with rfl | hw
   ·simp at hm;omega
   ·obtain ⟨n,_,rfl⟩:=List.mem_map.mp hw
    exact ZiE n c hm
theorem ZgJ{Φ:D→Prop}{k:Nat}{K:Kd}{T col pt pr:D}{cs:List C5}(hk:KOk k K)(ht:Tr k T)(h:Cs k T cs)(hs:Sid K col pt pr)(q:Φ (.bl true)):Tl (ZbM [thD K T,.int (kn K),S (Zaz [32] (rowW K cs)),T,col,pt,pr]) Φ:=by
 have ra:=Zm6 (cs:=cs) hk
 unfold ZbM
 walk_at "w"
 refine ZdJ hk h ?_
 walk_at "w"
 refine Zjb ra.pl ?_
 walk_at "w"
 refine ZhU hk ht h ?_
 walk_at "w"
 refine ZmS ht hs ?_
 walk_at "w"
 refine ZdJ hk h ?_
 walk_at "w"
 refine Zlz ra.pl ?_
 walk_at "w"
 refine ZdJ hk h ?_
 walk_at "w"
 refine Zlz ra.pl ?_
 walk_at "w"
 exact q
theorem Zk2(ns:List Int)(lo hi:Option Int):∃ms:List Int,cutL (ns.map .int) lo hi=ms.map .int∧ms.length≤ns.length∧∀m∈ms,m∈ns:=by
 refine ⟨(ns.drop (cutAt ns.length 0 lo)).take (cutAt ns.length ns.length hi - cutAt ns.length 0 lo),?_,?_,fun m hm=>List.mem_of_mem_drop (List.mem_of_mem_take hm)⟩
 ·unfold cutL
  rw [List.length_map,List.map_take,List.map_drop]
 ·rw [List.length_take,List.length_drop]
  omega
theorem ZkY{Φ:List D→Prop}{cc:Int}{many:Nat}(hm:many≤3)(q:∀a b c:D,Tr many (.tup [a,b,c])→Φ [a,b,c]):Tl (Zao (gN 0) yes (on Zbb (Zab (v 2) (Zab (o2 dMul (c (.int 8)) (v 0)) (Zab (v 1) anil)))) [Cl.no,.im (.int many),.im (.int cc)] (Zbt 0 (Int.toNat 3))) Φ:=by
 refine w_all (fun _ y=>∃(x y0 w h:Int) (vs:List Int),y=cor x y0 w h vs∧Ck x y0 w h∧vs.length=many∧∀v∈vs,Bd v) (fun x hx=>?_) fun ys l hp=>?_
 ·obtain ⟨k,hk,rfl⟩:=mem_range hx
  have hk:k<3:=hk
  walk_at "w"
  exact Zlm (by omega) hm fun x y w h vs ck lv bv=>⟨x,y,w,h,vs,rfl,ck,lv,bv⟩
 ·have l:ys.length=3:=l
  obtain ⟨a,b,c,rfl⟩ : ∃a b c,ys=[a,b,c]:=by
   cases ys with
   | nil=>cases l
   | cons a r =>
    cases r with
    | nil=>cases l
    | cons b r =>
     cases r with
     | nil=>cases l
     | cons c r =>
      cases r with
      | nil=>exact ⟨a,b,c,rfl⟩
      | cons d r=>simp at l
  obtain ⟨ax,ay,aw,ah,av,rfl,ca,la,va⟩:=hp 0 _ _ rfl rfl
  obtain ⟨bx,bY,bw,bh,bv,rfl,cb,lb,vb⟩:=hp 1 _ _ rfl rfl
  obtain ⟨cx,cy,cw,ch,cv,rfl,cc,lc,vc⟩:=hp 2 _ _ rfl rfl
  exact q _ _ _ ⟨ax,ay,aw,ah,bx,bY,bw,bh,cx,cy,cw,ch,av,bv,cv,rfl,ca,cb,cc,la,lb,lc,va,vb,vc⟩
theorem ZiH:Str.ofString "plain "=mkS (lPl++[32]):=by decide +kernel
theorem Zim:Str.ofString "patterned "=mkS (lPa++[32]):=by decide +kernel
theorem Zp0:Str.ofString "glass "=mkS (lGl++[32]):=by decide +kernel
theorem Zlv(ns:List Int)(h63:ns.length≤63):Zoa [.lst (ns.map .int)]=.ok (.bl true):=by
 refine Tl.eq ?_
 unfold Zoa
 obtain ⟨ms,em,lm,-⟩:=Zk2 ns none (some 6)
 walk_at "w"
 rw [em]
 refine Zht (by simp;omega) ?_
 walk_at "w"
 refine Zpz (fun ρ=>∃v1 v2 v3 v4 v5 v6 v7 v8 v9 v10:Cl,ρ=[.im (.lst (ns.map .int)),v1,v2,v3,v4,v5,v6,v7,v8,v9,v10]) ⟨_,_,_,_,_,_,_,_,_,_,rfl⟩ ?_ ?_
 ·rintro x hx ρ ⟨v1,v2,v3,v4,v5,v6,v7,v8,v9,v10,rfl⟩
  obtain ⟨cc,rfl⟩ : ∃cc:Int,x=.int cc:=by
   rcases List.mem_append.mp hx with hx | hx
   ·simp only [List.mem_cons,List.not_mem_nil,or_false] at hx
    rcases hx with rfl | rfl
    ·exact ⟨_,rfl⟩
    ·exact ⟨_,rfl⟩
   ·obtain ⟨n,_,rfl⟩:=List.mem_map.mp hx
    exact ⟨_,rfl⟩
  clear hx
  walk_at "w"
  refine ZeA (by omega) fun col hcol=>?_
  walk_at "w"
  refine ZjI (by omega) fun p0 hp0 hp1 hp2=>?_
  walk_at "w"
  refine Zbk (by omega) fun r1 hr1=>?_
  walk_at "w"
  refine Zh2 (by simp;omega) fun d hd=>?_
  obtain ⟨pr,rfl,hpr,hq0,hq1⟩ : ∃p:Rat,d=frD p∧B30 p∧0≤p.num∧p.num≤p.den:=by
   simp only [List.mem_cons,List.not_mem_nil,or_false] at hd
   rcases hd with rfl | rfl | rfl
   ·exact ⟨0,rfl,⟨by decide,by decide⟩,by decide,by decide⟩
   ·exact ⟨1,rfl,⟨by decide,by decide⟩,by decide,by decide⟩
   ·exact ⟨p0,rfl,hp0,hp1,hp2⟩
  clear hd hp0 hp1 hp2 p0
  walk_at "w"
  refine Zg6 fun h w P hh hw hP=>?_
  walk_at "w"
  refine ZcD hcol ?_
  walk_at "w"
  refine ZbN hcol ?_
  walk_at "w"
  refine Zjb (ZmG col).pl ?_
  walk_at "w"
  refine w_sD ?_
  walk_at "w"
  refine ⟨_,rfl,?_⟩
  rw [Zn6]
  unfold patD
  walk_at "w"
  refine ⟨by simp;have:=hh.le;omega,?_⟩
  refine ZbL (fun i=>S (rowT w (P i))) (fun i hi=>?_) ?_
  ·unfold rowD
   walk_at "w"
   refine w_sD ?_
   walk_at "w"
   refine ⟨_,rfl,?_⟩
   walk_at "w"
   refine ⟨by simp;have:=hw.le;omega,?_⟩
   refine ZbL (fun j=>S (fT (P i j))) (fun j hj=>?_) ?_
   ·walk_at "w"
    exact ZbN (hP i (List.mem_range.mp hi) j (List.mem_range.mp hj)) rfl
   ·walk_at "w"
    rw [litC,show (List.range w).map (fun j=>S (fT (P i j)))=((List.range w).map fun j=>fT (P i j)).map S by rw [List.map_map];rfl]
    exact ZdW (Nat.le_trans (ZeW hw.le.2 (hP i (List.mem_range.mp hi))) (by decide)) rfl
  rw [show (List.range h).map (fun i=>S (rowT w (P i)))=((List.range h).map fun i=>rowT w (P i)).map S by rw [List.map_map];rfl]
  refine ZdW (Nat.le_trans (Zd2 hh.le.2 hw.le.2 hP) (by decide)) ?_
  rw [show D.lst ((List.range h).map fun i=>rowD w (P i))=patD h w P from rfl,show mkS (Zaz [59] ((List.range h).map fun i=>rowT w (P i)))=mkS (patT h w P) from rfl]
  have ptl:(patT h w P).length≤16400:=Nat.le_trans (Za3 (s:=[59]) ((List.range h).map fun i=>rowT w (P i))) (Zd2 hh.le.2 hw.le.2 hP)
  have cl:=Zfw hcol
  have pl:=Zfw hpr
  walk_at "w"
  rw [show Zbt 0 (Int.toNat 4)=[D.int 0,.int 1,.int 2,.int 3] from rfl]
  refine Zpz (fun ρ=>∃v6 v7 v8 v9 v10:Cl,ρ=[.im (.lst (ns.map .int)),.im (.int cc),.im (frD col),.im (frD pr),.im (patD h w P),.im (S (patT h w P)),v6,v7,v8,v9,v10]) ⟨_,_,_,_,_,rfl⟩ ?_ ?_
  ·rintro x hx ρ ⟨v6,v7,v8,v9,v10,rfl⟩
   simp only [List.mem_cons,List.not_mem_nil,or_false] at hx
   rcases hx with rfl | rfl | rfl | rfl
   ·walk_at "w"
    refine Zbk (by omega) fun r2 hr2=>?_
    walk_at "w"
    refine ⟨by decide,?_⟩
    obtain ⟨m,e,hm⟩ : ∃m:Nat,0+r2%4=(m:Int)∧0≤m∧m≤3:=⟨(0+r2%4).toNat,by omega,by omega,by omega⟩
    rw [e]
    refine ZkY hm.2 fun a b c ht=>?_
    obtain ⟨cs,hcs⟩:=Zln hm.2 ht
    walk_at "w"
    generalize hT:D.tup [a,b,c]=T at *
    refine ZbN hcol ?_
    walk_at "w"
    rw [ZiH]
    refine ZbG (by simp [lPl];omega) ?_
    walk_at "w"
    rw [Zim]
    refine ZbG (by simp [lPa];omega) ?_
    walk_at "w"
    refine ZdB ?_
    walk_at "w"
    refine ⟨_,Zgy hm.2 ht,?_⟩
    walk_at "w"
    rw [show lPl++[32]++fT col=Zaz [32] (hdW (.pl col)) from rfl]
    refine Ze0 (ws:=hdW (.pl col)) (Zfp _) (Zet (k:=m) hcol) hcs ?_
    walk_at "w"
    refine ZgJ (K:=(.pl col)) hcol ht hcs rfl ?_
    walk_at "w"
    exact ⟨_,rfl,_,_,_,_,_,rfl⟩
   ·walk_at "w"
    refine Zbk (by omega) fun r2 hr2=>?_
    walk_at "w"
    refine ⟨by decide,?_⟩
    obtain ⟨m,e,hm⟩ : ∃m:Nat,1+r2%3=(m:Int)∧1≤m∧m≤3:=⟨(1+r2%3).toNat,by omega,by omega,by omega⟩
    rw [e]
    refine ZkY hm.2 fun a b c ht=>?_
    obtain ⟨cs,hcs⟩:=Zln hm.2 ht
    walk_at "w"
    generalize hT:D.tup [a,b,c]=T at *
    refine ZbN hcol ?_
    walk_at "w"
    rw [ZiH]
    refine ZbG (by simp [lPl];omega) ?_
    walk_at "w"
    rw [Zim]
    refine ZbG (by simp [lPa];omega) ?_
    walk_at "w"
    refine ZdB ?_
    walk_at "w"
    refine ⟨_,Zij hm.2 ht hm.1,?_⟩
    walk_at "w"
    rw [Zjn,show lSh=Zaz [32] (hdW .sh) from rfl]
    refine Ze0 (ws:=hdW .sh) (Zfp _) (Zet (k:=m) hm.1) hcs ?_
    walk_at "w"
    refine ZgJ (K:=.sh) hm.1 ht hcs trivial ?_
    walk_at "w"
    exact ⟨_,rfl,_,_,_,_,_,rfl⟩
   ·walk_at "w"
    refine Zbk (by omega) fun r2 hr2=>?_
    walk_at "w"
    refine ⟨by decide,?_⟩
    obtain ⟨m,e,hm⟩ : ∃m:Nat,2+r2%2=(m:Int)∧2≤m∧m≤3:=⟨(2+r2%2).toNat,by omega,by omega,by omega⟩
    rw [e]
    refine ZkY hm.2 fun a b c ht=>?_
    obtain ⟨cs,hcs⟩:=Zln hm.2 ht
    walk_at "w"
    generalize hT:D.tup [a,b,c]=T at *
    refine ZbN hcol ?_
    walk_at "w"
    rw [ZiH]
    refine ZbG (by simp [lPl];omega) ?_
    walk_at "w"
    rw [Zim]
    refine ZbG (by simp [lPa];omega) ?_
    walk_at "w"
    refine ZdB ?_
    walk_at "w"
    refine ⟨_,Zgy hm.2 ht,?_⟩
    walk_at "w"
    refine ZdB ?_
    walk_at "w"
    refine ⟨_,ZmD hm.2 ht hm.1 hh hw,?_⟩
    walk_at "w"
    rw [show lPa++[32]++patT h w P=Zaz [32] (hdW (.pa h w P)) from rfl]
    refine Ze0 (ws:=hdW (.pa h w P)) (Zfp _) (Zet (k:=m) ⟨hm.1,hh,hw,hP⟩) hcs ?_
    walk_at "w"
    refine ZgJ (K:=(.pa h w P)) ⟨hm.1,hh,hw,hP⟩ ht hcs rfl ?_
    walk_at "w"
    exact ⟨_,rfl,_,_,_,_,_,rfl⟩
   ·walk_at "w"
    refine Zbk (by omega) fun r2 hr2=>?_
    walk_at "w"
    refine ⟨by decide,?_⟩
    obtain ⟨m,e,hm⟩ : ∃m:Nat,0+r2%4=(m:Int)∧0≤m∧m≤3:=⟨(0+r2%4).toNat,by omega,by omega,by omega⟩
    rw [e]
    refine ZkY hm.2 fun a b c ht=>?_
    obtain ⟨cs,hcs⟩:=Zln hm.2 ht
    walk_at "w"
    generalize hT:D.tup [a,b,c]=T at *
    refine ZbN hcol ?_
    walk_at "w"
    rw [ZiH]
    refine ZbG (by simp [lPl];omega) ?_
    walk_at "w"
    rw [Zim]
    refine ZbG (by simp [lPa];omega) ?_
    walk_at "w"
    refine ZdB ?_
    walk_at "w"
    refine ⟨_,Zgy hm.2 ht,?_⟩
    walk_at "w"
    refine ZdB ?_
    walk_at "w"
    refine ⟨_,ZjE hm.2 ht hq0 hq1,?_⟩
    walk_at "w"
    refine ZbN hcol ?_
    walk_at "w"
    rw [Zp0,litB]
    refine ZbG (by simp [lGl];omega) ?_
    walk_at "w"
    refine ZbG (by simp [lGl];omega) ?_
    walk_at "w"
    refine ZbN hpr ?_
    walk_at "w"
    refine ZbG (by simp [lGl];omega) ?_
    walk_at "w"
    rw [show lGl++[32]++fT col++[32]++fT pr=Zaz [32] (hdW (.gl col pr)) by simp [hdW,Zaz,List.append_assoc]]
    refine Ze0 (ws:=hdW (.gl col pr)) (Zfp _) (Zet (k:=m) ⟨hcol,hpr,hq0,hq1⟩) hcs ?_
    walk_at "w"
    refine ZgJ (K:=(.gl col pr)) ⟨hcol,hpr,hq0,hq1⟩ ht hcs ⟨rfl,rfl⟩ ?_
    walk_at "w"
    exact ⟨_,rfl,_,_,_,_,_,rfl⟩
  ·rintro ρ ⟨v6,v7,v8,v9,v10,rfl⟩
   walk_at "w"
   exact ⟨_,rfl,_,_,_,_,_,_,_,_,_,_,rfl⟩
 ·rintro ρ ⟨v1,v2,v3,v4,v5,v6,v7,v8,v9,v10,rfl⟩
  walk_at "w"
end My
namespace My
open PySem L2 Ds Dl
def top(i:Nat):Stmt:=PySem.Challenge.pw_sampleyard_k81_things_written.main.body.getD i (.Pass ⟨0,0,0,0⟩)
abbrev Zbo:Stmt:=top 19
abbrev ZeI:Stmt:=top 8
abbrev Zdr:Stmt:=top 16
abbrev ZdY:Stmt:=top 15
abbrev ZbU:Stmt:=top 14
abbrev Zbu:Stmt:=(inClass (top 25) 0)
abbrev Zbq:Stmt:=top 9
abbrev ZcK:Stmt:=top 11
abbrev Zcx:Stmt:=top 31
abbrev Zdq:Stmt:=top 32
abbrev Zbx:Stmt:=(inClass (top 29) 0)
abbrev Zb8:Stmt:=top 22
abbrev Zcr:Stmt:=top 30
abbrev Zgo:Stmt:=top 23
abbrev Za6:Stmt:=(inClass (top 28) 0)
abbrev Zbv:Stmt:=(inClass (top 26) 0)
abbrev Zbn:Stmt:=(inClass (top 27) 0)
abbrev Zc5:Stmt:=top 53
abbrev ZcX:Stmt:=top 54
abbrev ZcQ:Stmt:=top 58
abbrev Zcq:Stmt:=top 52
abbrev ZeG:Stmt:=top 55
abbrev Zb2:Stmt:=top 56
abbrev ZdS:Stmt:=top 57
abbrev Zcn:Stmt:=top 59
abbrev Zdf:Stmt:=top 62
abbrev Zds:Stmt:=top 63
abbrev Zc8:Stmt:=top 46
abbrev ZdP:Stmt:=top 47
abbrev ZcI:Stmt:=top 39
abbrev ZcM:Stmt:=top 38
abbrev ZcL:Stmt:=top 48
abbrev Zcc:Stmt:=top 40
abbrev ZcA:Stmt:=top 50
abbrev Zex:Stmt:=top 49
abbrev Zda:Stmt:=top 45
abbrev ZcN:Stmt:=top 36
abbrev Zdh:Stmt:=top 17
abbrev ZcY:Stmt:=top 44
abbrev ZcV:Stmt:=(inClass (top 29) 1)
abbrev Zby:Stmt:=(inClass (top 28) 1)
abbrev ZcO:Stmt:=(inClass (top 26) 1)
abbrev Zcv:Stmt:=(inClass (top 27) 1)
abbrev Zb5:Stmt:=top 37
abbrev Zcw:Stmt:=top 43
abbrev Zc6:Stmt:=top 42
abbrev Zdk:Stmt:=top 41
abbrev Zdd:Stmt:=top 64
abbrev Zey:Stmt:=top 61
abbrev ZdQ:Stmt:=top 60
abbrev Zgq:Stmt:=top 65
local macro_rules | `(tactic| walk_at "sc")=>`(tactic| exact ⟨rfl,rfl,rfl,by decide +kernel,rfl,by decide +kernel,by decide +kernel⟩)
theorem Zcb:Zaj ["corners", "corner"] ["corners"] (Zaf Zbo):=by walk_at "sc"
theorem ZhV:Zaj ["thing"] ["thing"] (Zaf ZeI):=by walk_at "sc"
theorem Zgd:Zaj ["thing"] ["thing"] (Zaf Zdr):=by walk_at "sc"
theorem Zhw:Zaj ["thing"] ["thing"] (Zaf ZdY):=by walk_at "sc"
theorem ZcF:Zaj ["triangle", "corner"] ["triangle"] (Zaf ZbU):=by walk_at "sc"
theorem Zd7:Zaj ["self", "triangle"] ["self", "triangle"] (Zaf Zbu):=by walk_at "sc"
theorem Zaw:Zaj ["numbers", "found", "number", "rest", "left"] ["numbers"] (Zaf Zbq):=by walk_at "sc"
theorem ZfS:Zaj ["thing"] ["thing"] (Zaf ZcK):=by walk_at "sc"
theorem Zfn:Zaj ["colour"] ["colour"] (Zaf Zcx):=by walk_at "sc"
theorem Zgg:Zaj ["part"] ["part"] (Zaf Zdq):=by walk_at "sc"
theorem Zee:Zaj ["self", "triangle", "colour", "part"] ["self", "triangle", "colour", "part"] (Zaf Zbx):=by walk_at "sc"
theorem ZcZ:Zaj ["pattern", "row"] ["pattern"] (Zaf Zb8):=by walk_at "sc"
theorem ZfF:Zaj ["triangle", "least"] ["triangle", "least"] (Zaf Zcr):=by walk_at "sc"
theorem ZjC:Zaj ["pattern"] ["pattern"] (Zaf Zgo):=by walk_at "sc"
theorem Zc3:Zaj ["self", "triangle", "pattern"] ["self", "triangle", "pattern"] (Zaf Za6):=by walk_at "sc"
theorem Zd5:Zaj ["self", "triangle", "colour"] ["self", "triangle", "colour"] (Zaf Zbv):=by walk_at "sc"
theorem Zd0:Zaj ["self", "triangle"] ["self", "triangle"] (Zaf Zbn):=by walk_at "sc"
theorem ZcJ:Zaj ["_law_cell", "_law_k", "_law_number_here"] ["_law_cell", "_law_k"] (Zaf Zc5):=by walk_at "sc"
theorem ZdG:Zaj ["_law_cell", "_law_k", "_law_number_here"] ["_law_cell", "_law_k"] (Zaf ZcX):=by walk_at "sc"
theorem ZbA:Zaj ["_law_cell", "_law_k", "_law_many", "_law_numbers", "_law_values", "_law_w"] ["_law_cell", "_law_k", "_law_many"] (Zaf ZcQ):=by walk_at "sc"
theorem Zdn:Zaj ["_law_one", "_law_other"] ["_law_one", "_law_other"] (Zaf Zcq):=by walk_at "sc"
theorem Zff:Zaj ["_law_cell", "_law_k", "_law_bound", "_law_number_here"] ["_law_cell", "_law_k", "_law_bound"] (Zaf ZeG):=by walk_at "sc"
theorem Za4:Zaj ["_law_cell", "_law_k", "_law_wide", "_law_top", "_law_bottom", "_law_part_here"] ["_law_cell", "_law_k"] (Zaf Zb2):=by walk_at "sc"
theorem Zdj:Zaj ["_law_cell", "_law_k", "_law_one", "_law_part_here"] ["_law_cell", "_law_k"] (Zaf ZdS):=by walk_at "sc"
theorem Zb7:Zaj ["_law_cell", "_law_high", "_law_wide"] ["_law_cell"] (Zaf Zcn):=by walk_at "sc"
theorem Zgm:Zaj ["_law_thing"] ["_law_thing"] (Zaf Zdf):=by walk_at "sc"
theorem Zgc:Zaj ["_law_thing", "_law_kind", "_law_triangle", "_law_colour", "_law_pattern_here", "_law_part_here"] ["_law_thing", "_law_kind", "_law_triangle", "_law_colour", "_law_pattern_here", "_law_part_here"] (Zaf Zds):=by walk_at "sc"
theorem ZgD:Zaj ["text"] ["text"] (Zaf Zc8):=by walk_at "sc"
theorem ZeL:Zaj ["words", "groups", "word"] ["words"] (Zaf ZdP):=by walk_at "sc"
theorem ZfY:Zaj ["word"] ["word"] (Zaf ZcI):=by walk_at "sc"
theorem ZdD:Zaj ["word", "figures"] ["word"] (Zaf ZcM):=by walk_at "sc"
theorem ZdF:Zaj ["words", "numbers"] ["words"] (Zaf ZcL):=by walk_at "sc"
theorem ZbT:Zaj ["word", "pieces", "fraction"] ["word"] (Zaf Zcc):=by walk_at "sc"
theorem Zfm:Zaj ["word"] ["word"] (Zaf ZcA):=by walk_at "sc"
theorem Zh3:Zaj ["head", "triangle"] ["head", "triangle"] (Zaf Zex):=by walk_at "sc"
theorem Zd1:Zaj ["row", "groups"] ["row"] (Zaf Zda):=by walk_at "sc"
theorem Zcz:Zaj ["number", "pieces", "rest"] ["number"] (Zaf ZcN):=by walk_at "sc"
theorem ZgY:Zaj ["corner"] ["corner"] (Zaf Zdh):=by walk_at "sc"
theorem ZfJ:Zaj ["corner"] ["corner"] (Zaf ZcY):=by walk_at "sc"
theorem ZfO:Zaj ["self"] ["self"] (Zaf ZcV):=by walk_at "sc"
theorem Zen:Zaj ["self"] ["self"] (Zaf Zby):=by walk_at "sc"
theorem ZfQ:Zaj ["self"] ["self"] (Zaf ZcO):=by walk_at "sc"
theorem Ze7:Zaj ["self"] ["self"] (Zaf Zcv):=by walk_at "sc"
theorem ZeS:Zaj ["fraction"] ["fraction"] (Zaf Zb5):=by walk_at "sc"
theorem Zfv:Zaj ["pattern"] ["pattern"] (Zaf Zcw):=by walk_at "sc"
theorem Zeb:Zaj ["thing", "word"] ["thing"] (Zaf Zc6):=by walk_at "sc"
theorem Zgk:Zaj ["thing"] ["thing"] (Zaf Zdk):=by walk_at "sc"
theorem ZcU:Zaj ["_law_thing", "_law_kind", "_law_row_here", "_law_triangle", "_law_colour", "_law_pattern_here", "_law_part_here", "_law_found", "_law_told"] ["_law_thing", "_law_kind", "_law_row_here", "_law_triangle", "_law_colour", "_law_pattern_here", "_law_part_here"] (Zaf Zdd):=by walk_at "sc"
theorem ZcS:Zaj ["_law_head", "_law_triangle", "_law_row_here", "_law_corner_here"] ["_law_head", "_law_triangle"] (Zaf Zey):=by walk_at "sc"
theorem Zhy:Zaj ["_law_fraction_here"] ["_law_fraction_here"] (Zaf ZdQ):=by walk_at "sc"
theorem Zcm:Zaj ["_law_script", "_law_cell", "_law_colour", "_law_part_here", "_law_pattern_here", "_law_words", "_law_kind", "_law_many", "_law_triangle", "_law_head", "_law_thing"] ["_law_script"] (Zaf Zgq):=by walk_at "sc"
structure Txt(K:W.Frag)(mg:Str→Option Value):Prop where
 z_abs:mg "abs"=none
 z_all:mg "all"=none
 z_bool:mg "bool"=none
 z_int:mg "int"=none
 z_isinstance:mg "isinstance"=none
 z_len:mg "len"=none
 z_list:mg "list"=none
 z_max:mg "max"=none
 z_range:mg "range"=none
 z_reversed:mg "reversed"=none
 z_str:mg "str"=none
 z_tuple:mg "tuple"=none
 g_FIGURES:∃tk,mg "FIGURES"=some (.str "0123456789" tk)
 g_MOST_FIGURES:∃tk,mg "MOST_FIGURES"=some (.int 30 tk)
 g_MOST_VALUES:∃tk,mg "MOST_VALUES"=some (.int 3 tk)
 t_COUNTS:GTup K mg "COUNTS" [1,2,4,8,16]
 c_Glass:∃C,mg "Glass"=some (.ref C)
 c_Patterned:∃C,mg "Patterned"=some (.ref C)
 c_Plain:∃C,mg "Plain"=some (.ref C)
 c_Shaded:∃C,mg "Shaded"=some (.ref C)
 c_Thing:∃C,mg "Thing"=some (.ref C)
 e_BadPattern:∃C,mg "BadPattern"=some (.ref C)∧W.excIn K C ZgI "ValueError.__new__"=true
 e_BadThing:∃C,mg "BadThing"=some (.ref C)∧W.excIn K C ZgI "ValueError.__new__"=true
 e_BadTriangle:∃C,mg "BadTriangle"=some (.ref C)∧W.excIn K C ZgI "ValueError.__new__"=true
 tabo:TabI K mg tabO
 f_colour:ZeF K mg objs "colour"
 f_part:ZeF K mg objs "part"
 f_pattern:ZeF K mg objs "pattern"
 f_triangle:ZeF K mg objs "triangle"
section
variable{P:Program}{w:World}{K:W.Frag}{mg:Str→Option Value}{base:Heap}
theorem ZdT(T:Txt K mg)(D:Def K mg "check_before_eye" Zbo ["corners"])  : Cal P w K mg base 1  "check_before_eye" ["corners"] ZaS:=by
 obtain ⟨C_BadTriangle,m_BadTriangle,q_BadTriangle⟩:=T.e_BadTriangle
 exact D.cal Zcb (fun f cdv A outer s H E hr=>⟨_,(Zag (Zfz PassesOwn.leaving rfl (Zbc (d_v 0)) (ZaE (i:=1) Zcb.nd rfl (Or.inl rfl) (by decide))
  (Zag (ZaT (Zq9 (d_ix (d_v 1) Zae) Zae)
  (Zag (ZdH rfl m_BadTriangle q_BadTriangle (Zaa ZaJ Zac)))
  Zap))))⟩)
theorem Zh0(T:Txt K mg)(D:Def K mg "is_whole" ZeI ["thing"])  : Cal P w K mg base 1  "is_whole" ["thing"] Za5:=by
 exact D.cal ZhV (fun f cdv A outer s H E hr=>⟨_,(Zag (Zan (Zkj (d_cb Zbf Zbj rfl T.z_isinstance Zas (Zaa (d_v 0) (Zaa (d_ty rfl T.z_int Zmo) Zac))) (ZhW (Zqx (d_cb Zbf Zbj rfl T.z_isinstance Zas (Zaa (d_v 0) (Zaa (d_ty rfl T.z_bool Zm3) Zac))))))))⟩)
theorem ZgA(T:Txt K mg)(D:Def K mg "are_values" Zdr ["thing"])(c_is_whole:Cal P w K mg base 1  "is_whole" ["thing"] Za5):Cal P w K mg base 2  "are_values" ["thing"] ZbH:=by
 obtain ⟨tk_MOST_VALUES,g_MOST_VALUES⟩:=T.g_MOST_VALUES
 exact D.cal Zgd (fun f cdv A outer s H E hr=>⟨_,(Zad (ZaT (DW.dt (ZdX (Zbm (Zbd (d_cb Zbf Zbj rfl T.z_isinstance Zas (Zaa (d_v 0) (Zaa (d_ty rfl T.z_tuple Zci) Zac))))) (Zck (Zly (d_cb Zat ZaH rfl T.z_len ZbB (Zaa (d_v 0) Zac)) (d_gi rfl g_MOST_VALUES)))))
  (Zag (Zan d_bl))
  Zap)
  (Zag (Zan (d_cb (Zd9 rfl) Zd6 rfl T.z_all Zis (Zaa (ZbC (own:=["number"]) (cap:=[]) (Zbc (d_v 0)) (ZaG.of rfl rfl (by kernel_rfl) rfl trivial trivial) rfl (fun _ _ _ _ _=>(ZaE (i:=0) (show List.Nodup (["number"]:List Str) by decide +kernel) rfl (Or.inl rfl) (by decide))) (fun _ _ _ _ _=>ZaW) (fun _ _ _ _ _=>(ZbQ c_is_whole hr (by decide) rfl (Zaa (d_v 0) Zac)))) Zac)))))⟩)
theorem Zhx(T:Txt K mg)(D:Def K mg "is_corner" ZdY ["thing"])(c_is_whole:Cal P w K mg base 1  "is_whole" ["thing"] Za5)(c_are_values:Cal P w K mg base 2  "are_values" ["thing"] ZbH):Cal P w K mg base 3  "is_corner" ["thing"] Zb9:=by
 exact D.cal Zhw (fun f cdv A outer s H E hr=>⟨_,(Zad (ZaT (DW.dt (ZdX (Zbm (Zbd (d_cb Zbf Zbj rfl T.z_isinstance Zas (Zaa (d_v 0) (Zaa (d_ty rfl T.z_tuple Zci) Zac))))) (Zck (Zec hr (d_cb Zat ZaH rfl T.z_len ZbB (Zaa (d_v 0) Zac)) Zae))))
  (Zag (Zan d_bl))
  Zap)
  (Zad (ZaT (Zbm (Zbd (d_cb (Zd9 rfl) Zd6 rfl T.z_all Zis (Zaa (ZbC (own:=["number"]) (cap:=[]) (Zbc (ZgX (d_v 0) Zcy (Zcu Zae))) (ZaG.of rfl rfl (by kernel_rfl) rfl trivial trivial) rfl (fun _ _ _ _ _=>(ZaE (i:=0) (show List.Nodup (["number"]:List Str) by decide +kernel) rfl (Or.inl rfl) (by decide))) (fun _ _ _ _ _=>ZaW) (fun _ _ _ _ _=>(ZbQ c_is_whole hr (by decide) rfl (Zaa (d_v 0) Zac)))) Zac))))
  (Zag (Zan d_bl))
  Zap)
  (Zag (Zan (Zkj (d_ge (d_ix (d_v 0) Zae) Zae) (ZhW (Zak c_are_values hr (by decide) rfl Zah (Zaa (d_ix (d_v 0) Zae) Zac))))))))⟩)
theorem Zez(T:Txt K mg)(D:Def K mg "check_triangle" ZbU ["triangle"])(c_is_corner:Cal P w K mg base 3  "is_corner" ["thing"] Zb9):Cal P w K mg base 4  "check_triangle" ["triangle"] Za2:=by
 obtain ⟨C_BadTriangle,m_BadTriangle,q_BadTriangle⟩:=T.e_BadTriangle
 exact D.cal ZcF (fun f cdv A outer s H E hr=>⟨_,(Zad (ZaT (DW.dt (ZdX (Zbm (Zbd (d_cb Zbf Zbj rfl T.z_isinstance Zas (Zaa (d_v 0) (Zaa (d_ty rfl T.z_tuple Zci) Zac))))) (Zck (Zec hr (d_cb Zat ZaH rfl T.z_len ZbB (Zaa (d_v 0) Zac)) Zae))))
  (Zag (ZdH rfl m_BadTriangle q_BadTriangle (Zaa ZaJ Zac)))
  Zap)
  (Zag (Zfz PassesOwn.leaving rfl (Zbc (d_v 0)) (ZaE (i:=1) ZcF.nd rfl (Or.inl rfl) (by decide))
  (Zad (ZaT (Zbm (Zbd (Zak c_is_corner hr (by decide) rfl Zah (Zaa (d_v 1) Zac))))
  (Zag (ZdH rfl m_BadTriangle q_BadTriangle (Zaa ZaJ Zac)))
  Zap)
  (Zag (ZaT (Zec hr (d_cb Zat ZaH rfl T.z_len ZbB (Zaa (d_ix (d_v 1) Zae) Zac)) (d_cb Zat ZaH rfl T.z_len ZbB (Zaa (d_ix (d_ix (d_v 0) Zae) Zae) Zac)))
  (Zag (ZdH rfl m_BadTriangle q_BadTriangle (Zaa ZaJ Zac)))
  Zap))))))⟩)
theorem Zk0{f:Addr}{fd:FuncData}(T:Txt K mg)(F:Fun K "__init__" "Thing.__init__" Zbu f fd)(c_check_before_eye:Cal P w K mg base 1  "check_before_eye" ["corners"] ZaS)(c_check_triangle:Cal P w K mg base 4  "check_triangle" ["triangle"] Za2):FnOk P w K mg base (CXR P w) 5 f fd ["self", "triangle"] (spJ K mg 1 objs ZbR):=by
 exact okJ F Zd7 (by decide) rfl (fun cdv A outer s H E hr=>⟨_,(ZeM (Zak c_check_triangle hr (by decide) rfl Zah (Zaa (d_v 1) Zac))
  (ZeM (Zak c_check_before_eye hr (by decide) rfl Zah (Zaa (d_v 1) Zac))
  (ZgL T.f_triangle (d_v 1)
  Zhe)))⟩)
theorem ZdL(T:Txt K mg)(D:Def K mg "greatest_divisor" Zbq ["numbers"])  : Cal P w K mg base 1  "greatest_divisor" ["numbers"] ZaU:=by
 exact D.cal Zaw (fun f cdv A outer s H E hr=>⟨_,(Zad (Zax (i:=1) Zaw.nd rfl (Or.inl rfl) Zae)
  (Zad (Zfz PassesOwn.leaving rfl (Zbc (d_v 0)) (ZaE (i:=2) Zaw.nd rfl (Or.inl rfl) (by decide))
  (Zad (Zax (i:=3) Zaw.nd rfl (Or.inl rfl) (d_cb Zep Zdc rfl T.z_abs Zhq (Zaa (d_v 2) Zac)))
  (Zag (Zju PassesOwn.leaving (Zec hr (d_v 3) Zae)
  (Zad (Zax (i:=4) Zaw.nd rfl (Or.inl rfl) (Zcp (d_v 1) (d_v 3)))
  (Zad (Zax (i:=1) Zaw.nd rfl (Or.inl rfl) (d_v 3))
  (Zag (Zax (i:=3) Zaw.nd rfl (Or.inl rfl) (d_v 4)))))))))
  (Zag (Zan (d_v 1)))))⟩)
theorem ZfM(T:Txt K mg)(D:Def K mg "is_fraction" ZcK ["thing"])(c_is_whole:Cal P w K mg base 1  "is_whole" ["thing"] Za5)(c_greatest_divisor:Cal P w K mg base 1  "greatest_divisor" ["numbers"] ZaU):Cal P w K mg base 2  "is_fraction" ["thing"] ZaD:=by
 exact D.cal ZfS (fun f cdv A outer s H E hr=>⟨_,(Zad (ZaT (DW.dt (ZdX (Zbm (Zbd (d_cb Zbf Zbj rfl T.z_isinstance Zas (Zaa (d_v 0) (Zaa (d_ty rfl T.z_tuple Zci) Zac))))) (Zck (Zec hr (d_cb Zat ZaH rfl T.z_len ZbB (Zaa (d_v 0) Zac)) Zae))))
  (Zag (Zan d_bl))
  Zap)
  (Zad (ZaT (DW.dt (ZdX (Zbm (Zbd (Zak c_is_whole hr (by decide) rfl Zah (Zaa (d_ix (d_v 0) Zae) Zac)))) (Zck (Zbm (Zbd (Zak c_is_whole hr (by decide) rfl Zah (Zaa (d_ix (d_v 0) Zae) Zac)))))))
  (Zag (Zan d_bl))
  Zap)
  (Zag (Zan (Zkj (d_ge (d_ix (d_v 0) Zae) Zae) (ZhW (d_eq hr (Zak c_greatest_divisor hr (by decide) rfl Zah (Zaa (d_v 0) Zac)) Zae)))))))⟩)
theorem Zfu(T:Txt K mg)(D:Def K mg "check_colour" Zcx ["colour"])(c_is_fraction:Cal P w K mg base 2  "is_fraction" ["thing"] ZaD):Cal P w K mg base 3  "check_colour" ["colour"] ZaX:=by
 obtain ⟨C_BadThing,m_BadThing,q_BadThing⟩:=T.e_BadThing
 exact D.cal Zfn (fun f cdv A outer s H E hr=>⟨_,(Zag (ZaT (Zbm (Zbd (Zak c_is_fraction hr (by decide) rfl Zah (Zaa (d_v 0) Zac))))
  (Zag (ZdH rfl m_BadThing q_BadThing (Zaa ZaJ Zac)))
  Zap))⟩)
theorem ZgN(T:Txt K mg)(D:Def K mg "check_part" Zdq ["part"])(c_is_fraction:Cal P w K mg base 2  "is_fraction" ["thing"] ZaD):Cal P w K mg base 3  "check_part" ["part"] ZbJ:=by
 obtain ⟨C_BadThing,m_BadThing,q_BadThing⟩:=T.e_BadThing
 exact D.cal Zgg (fun f cdv A outer s H E hr=>⟨_,(Zag (ZaT (DW.dt (ZdX (Zbm (Zbd (Zak c_is_fraction hr (by decide) rfl Zah (Zaa (d_v 0) Zac)))) (ZdX (Zlk (d_ix (d_v 0) Zae) Zae) (Zck (Zly (d_ix (d_v 0) Zae) (d_ix (d_v 0) Zae))))))
  (Zag (ZdH rfl m_BadThing q_BadThing (Zaa ZaJ Zac)))
  Zap))⟩)
theorem Zk1{f:Addr}{fd:FuncData}(T:Txt K mg)(F:Fun K "__init__" "Glass.__init__" Zbx f fd)(cs_Thing:ZiU P w K mg base 5 "Thing" "__init__" 1 objs ZbR)(c_check_colour:Cal P w K mg base 3  "check_colour" ["colour"] ZaX)(c_check_part:Cal P w K mg base 3  "check_part" ["part"] ZbJ):FnOk P w K mg base (CXR P w) 7 f fd ["self", "triangle", "colour", "part"] (spJ K mg 3 objs Zdl):=by
 exact okJ F Zee (by decide) rfl (fun cdv A outer s H E hr=>⟨_,(Zir cs_Thing hr (by decide) rfl Zah (fun _ h=>h) (Zaa (d_v 1) Zac)
  (ZeM (Zak c_check_colour hr (by decide) rfl Zah (Zaa (d_v 2) Zac))
  (ZeM (Zak c_check_part hr (by decide) rfl Zah (Zaa (d_v 3) Zac))
  (ZgL T.f_colour (d_v 2)
  (ZgL T.f_part (d_v 3)
  Zhe)))))⟩)
theorem ZeT(T:Txt K mg)(D:Def K mg "check_pattern" Zb8 ["pattern"])(c_is_fraction:Cal P w K mg base 2  "is_fraction" ["thing"] ZaD):Cal P w K mg base 3  "check_pattern" ["pattern"] ZaY:=by
 obtain ⟨C_BadPattern,m_BadPattern,q_BadPattern⟩:=T.e_BadPattern
 obtain ⟨ga_COUNTS,go_COUNTS,gi_COUNTS,gn_COUNTS,gm_COUNTS,gl_COUNTS,gc_COUNTS,gd_COUNTS,gz_COUNTS,gv_COUNTS⟩:=T.t_COUNTS
 exact D.cal ZcZ (fun f cdv A outer s H E hr=>⟨_,(Zad (ZaT (DW.dt (ZdX (Zbm (Zbd (d_cb Zbf Zbj rfl T.z_isinstance Zas (Zaa (d_v 0) (Zaa (d_ty rfl T.z_list ZdO) Zac))))) (Zck (Zml hr (d_cb Zat ZaH rfl T.z_len ZbB (Zaa (d_v 0) Zac)) (Zl6 (ns:=[1,2,4,8,16]) rfl gm_COUNTS gl_COUNTS gc_COUNTS gd_COUNTS gz_COUNTS gv_COUNTS)))))
  (Zag (ZdH rfl m_BadPattern q_BadPattern (Zaa ZaJ Zac)))
  Zap)
  (Zag (Zfz PassesOwn.leaving rfl (Zbc (d_v 0)) (ZaE (i:=1) ZcZ.nd rfl (Or.inl rfl) (by decide))
  (Zad (ZaT (DW.dt (ZdX (Zbm (Zbd (d_cb Zbf Zbj rfl T.z_isinstance Zas (Zaa (d_v 1) (Zaa (d_ty rfl T.z_list ZdO) Zac))))) (Zck (Zml hr (d_cb Zat ZaH rfl T.z_len ZbB (Zaa (d_v 1) Zac)) (Zl6 (ns:=[1,2,4,8,16]) rfl gm_COUNTS gl_COUNTS gc_COUNTS gd_COUNTS gz_COUNTS gv_COUNTS)))))
  (Zag (ZdH rfl m_BadPattern q_BadPattern (Zaa ZaJ Zac)))
  Zap)
  (Zad (ZaT (Zec hr (d_cb Zat ZaH rfl T.z_len ZbB (Zaa (d_v 1) Zac)) (d_cb Zat ZaH rfl T.z_len ZbB (Zaa (d_ix (d_v 0) Zae) Zac)))
  (Zag (ZdH rfl m_BadPattern q_BadPattern (Zaa ZaJ Zac)))
  Zap)
  (Zag (ZaT (Zbm (Zbd (d_cb (Zd9 rfl) Zd6 rfl T.z_all Zis (Zaa (ZbC (own:=["entry"]) (cap:=[]) (Zbc (d_v 1)) (ZaG.of rfl rfl (by kernel_rfl) rfl trivial trivial) rfl (fun _ _ _ _ _=>(ZaE (i:=0) (show List.Nodup (["entry"]:List Str) by decide +kernel) rfl (Or.inl rfl) (by decide))) (fun _ _ _ _ _=>ZaW) (fun _ _ _ _ _=>(ZbQ c_is_fraction hr (by decide) rfl (Zaa (d_v 0) Zac)))) Zac))))
  (Zag (ZdH rfl m_BadPattern q_BadPattern (Zaa ZaJ Zac)))
  Zap)))))))⟩)
theorem ZfB(T:Txt K mg)(D:Def K mg "check_values" Zcr ["triangle", "least"])  : Cal P w K mg base 1  "check_values" ["triangle", "least"] ZaV:=by
 exact D.cal ZfF (fun f cdv A outer s H E hr=>⟨_,(Zag (ZaT (Zlk (d_cb Zat ZaH rfl T.z_len ZbB (Zaa (d_ix (d_ix (d_v 0) Zae) Zae) Zac)) (d_v 1))
  Zdm
  Zap))⟩)
theorem ZjF(T:Txt K mg)(D:Def K mg "copied" Zgo ["pattern"])  : CalR P w K mg base 1  "copied" ["pattern"] Zcl:=by
 exact D.calR ZjC (fun f cdv A outer s H E hr=>⟨_,(ZlR (own:=["row"]) (cap:=[]) (Zbc (d_v 0)) (ZaG.of rfl rfl (by kernel_rfl) rfl trivial trivial) rfl (fun _ _ _ _ _=>(ZaE (i:=0) (show List.Nodup (["row"]:List Str) by decide +kernel) rfl (Or.inl rfl) (by decide))) (fun _ _ _ _ _=>ZaW) (fun _ _ _ _ _=>(Zm4 (d_ct ZbO ZcE rfl T.z_list ZdO (Zaa (d_v 0) Zac)) (Zaa (d_v 0) Zac))))⟩)
theorem Zg3{f:Addr}{fd:FuncData}(T:Txt K mg)(F:Fun K "__init__" "Patterned.__init__" Za6 f fd)(cs_Thing:ZiU P w K mg base 5 "Thing" "__init__" 1 objs ZbR)(c_check_pattern:Cal P w K mg base 3  "check_pattern" ["pattern"] ZaY)(c_check_values:Cal P w K mg base 1  "check_values" ["triangle", "least"] ZaV)(cr_copied:CalR P w K mg base 1 "copied" ["pattern"] Zcl):FnOk P w K mg base (CXR P w) 7 f fd ["self", "triangle", "pattern"] (spJ K mg 2 objs Za7):=by
 exact okJ F Zc3 (by decide) rfl (fun cdv A outer s H E hr=>⟨_,(Zir cs_Thing hr (by decide) rfl Zah (fun _ h=>h) (Zaa (d_v 1) Zac)
  (ZeM (Zak c_check_values hr (by decide) rfl Zah (Zaa (d_v 1) (Zaa Zae Zac)))
  (ZeM (Zak c_check_pattern hr (by decide) rfl Zah (Zaa (d_v 2) Zac))
  (ZnH T.f_pattern (Zok cr_copied hr (by decide) rfl Zah (Zaa (d_v 2) Zac))
  Zhe))))⟩)
theorem Zlh{f:Addr}{fd:FuncData}(T:Txt K mg)(F:Fun K "__init__" "Plain.__init__" Zbv f fd)(cs_Thing:ZiU P w K mg base 5 "Thing" "__init__" 1 objs ZbR)(c_check_colour:Cal P w K mg base 3  "check_colour" ["colour"] ZaX):FnOk P w K mg base (CXR P w) 7 f fd ["self", "triangle", "colour"] (spJ K mg 2 objs Zdt):=by
 exact okJ F Zd5 (by decide) rfl (fun cdv A outer s H E hr=>⟨_,(Zir cs_Thing hr (by decide) rfl Zah (fun _ h=>h) (Zaa (d_v 1) Zac)
  (ZeM (Zak c_check_colour hr (by decide) rfl Zah (Zaa (d_v 2) Zac))
  (ZgL T.f_colour (d_v 2)
  Zhe)))⟩)
theorem Zki{f:Addr}{fd:FuncData}(T:Txt K mg)(F:Fun K "__init__" "Shaded.__init__" Zbn f fd)(cs_Thing:ZiU P w K mg base 5 "Thing" "__init__" 1 objs ZbR)(c_check_values:Cal P w K mg base 1  "check_values" ["triangle", "least"] ZaV):FnOk P w K mg base (CXR P w) 7 f fd ["self", "triangle"] (spJ K mg 1 objs Zcj):=by
 exact okJ F Zd0 (by decide) rfl (fun cdv A outer s H E hr=>⟨_,(Zir cs_Thing hr (by decide) rfl Zah (fun _ h=>h) (Zaa (d_v 1) Zac)
  (ZeM (Zak c_check_values hr (by decide) rfl Zah (Zaa (d_v 1) (Zaa Zae Zac)))
  Zhe))⟩)
theorem Zgz(T:Txt K mg)(D:Def K mg "_law_mixed" Zc5 ["_law_cell", "_law_k"])  : Cal P w K mg base 1  "_law_mixed" ["_law_cell", "_law_k"] Zam:=by
 exact D.cal ZcJ (fun f cdv A outer s H E hr=>⟨_,(Zad (ZaT (DW.dt (Zfe (Zp9 (d_v 0) (ZkO Zae Zae)) (Zfe (ZcH hr (Zcp (d_v 0) Zae) Zae) (ZeC (Zly (ZoM (d_v 0) (ZaR Zae (ZfP Zae (d_v 1)))) Zae)))))
  (Zag (Zan (Zcp (ZoM (d_v 0) (ZaR Zae (ZfP Zae (d_v 1)))) Zae)))
  Zap)
  (Zad (Zax (i:=2) ZcJ.nd rfl (Or.inl rfl) (Zcp (ZfP (ZaR (ZaR (d_v 0) (ZfP Zae (d_v 1))) Zae) Zae) Zae))
  (Zad (Zax (i:=2) ZcJ.nd rfl (Or.inl rfl) (Zcp (ZfP (d_v 2) (ZaR (Zji (d_v 2) Zae) Zae)) Zae))
  (Zag (Zan (Zcp (ZfP (d_v 2) (ZaR (ZaR (Zji (d_v 2) Zae) Zae) (d_v 1))) Zae))))))⟩)
theorem ZfI(T:Txt K mg)(D:Def K mg "_law_number" ZcX ["_law_cell", "_law_k"])(c__law_mixed:Cal P w K mg base 1  "_law_mixed" ["_law_cell", "_law_k"] Zam):Cal P w K mg base 2  "_law_number" ["_law_cell", "_law_k"] ZaL:=by
 exact D.cal ZdG (fun f cdv A outer s H E hr=>⟨_,(Zad (Zax (i:=2) ZdG.nd rfl (Or.inl rfl) (Zkx (Zcp (Zak c__law_mixed hr (by decide) rfl Zah (Zaa (d_v 0) (Zaa (d_v 1) Zac))) Zae) Zae))
  (Zag (Zan (d_ix (Zce (Zaa (d_v 2) (Zaa (Zkx (Zcp (d_v 2) Zae) Zae) (Zaa (d_ix (Zce (Zaa (ZkL Zae Zae) (Zaa (ZqI (ZkL Zae Zae)) Zac))) (Zcp (d_v 2) Zae)) (Zaa Zae Zac))))) (Zcp (Zak c__law_mixed hr (by decide) rfl Zah (Zaa (d_v 0) (Zaa (ZaR Zae (d_v 1)) Zac))) Zae)))))⟩)
theorem ZfV(T:Txt K mg)(D:Def K mg "_law_corner" ZcQ ["_law_cell", "_law_k", "_law_many"])(c__law_number:Cal P w K mg base 2  "_law_number" ["_law_cell", "_law_k"] ZaL):Cal P w K mg base 3  "_law_corner" ["_law_cell", "_law_k", "_law_many"] Zbb:=by
 exact D.cal ZbA (fun f cdv A outer s H E hr=>⟨_,(Zad (Zax (i:=3) ZbA.nd rfl (Or.inl rfl) (Zce (Zaa (Zak c__law_number hr (by decide) rfl Zah (Zaa (d_v 0) (Zaa (d_v 1) Zac))) (Zaa (Zak c__law_number hr (by decide) rfl Zah (Zaa (d_v 0) (Zaa (ZaR (d_v 1) Zae) Zac))) Zac))))
  (Zad (Zax (i:=4) ZbA.nd rfl (Or.inl rfl) (d_ct ZbV ZcT rfl T.z_tuple Zci (Zaa (ZbC (own:=["_law_j"]) (cap:=[("_law_k", 1),("_law_cell", 0)]) (Zi6 rfl T.z_range (Zaa (d_v 2) Zac)) (ZaG.of rfl rfl (by kernel_rfl) rfl ⟨rfl,rfl,trivial⟩ ⟨rfl,rfl,trivial⟩) rfl (fun _ _ _ _ _=>(ZaE (i:=0) (show List.Nodup (["_law_j", "_law_k", "_law_cell"]:List Str) by decide +kernel) rfl (Or.inl rfl) (by decide))) (fun _ _ _ _ _=>ZaW) (fun _ _ _ _ _=>(ZbQ c__law_number hr (by decide) rfl (Zaa (d_v 2) (Zaa (ZaR (ZaR (d_v 1) Zae) (d_v 0)) Zac))))) Zac)))
  (Zad (Zax (i:=5) ZbA.nd rfl (Or.inl rfl) (d_cb (Zhm rfl) Zhn rfl T.z_max Zmn (Zaa Zae (Zaa (d_cb Zep Zdc rfl T.z_abs Zhq (Zaa (Zak c__law_number hr (by decide) rfl Zah (Zaa (d_v 0) (Zaa (ZaR (d_v 1) Zae) Zac))) Zac)) Zac))))
  (Zag (Zan (ZgW (Zaa (d_ix (d_v 3) Zae) (Zaa (d_ix (d_v 3) Zae) (Zaa (d_v 5) (Zaa (d_cb (Zhm rfl) Zhn rfl T.z_max Zmn (Zaa Zae (Zaa (d_cb Zep Zdc rfl T.z_abs Zhq (Zaa (Zak c__law_number hr (by decide) rfl Zah (Zaa (d_v 0) (Zaa (ZaR (d_v 1) Zae) Zac))) Zac)) Zac))) (Zaa (d_v 4) Zac)))))))))))⟩)
theorem Zft(T:Txt K mg)(D:Def K mg "_law_divisor" Zcq ["_law_one", "_law_other"])  : Cal P w K mg base 1  "_law_divisor" ["_law_one", "_law_other"] ZaM:=by
 exact D.cal Zdn (fun f cdv A outer s H E hr=>⟨_,(Zad (Zju PassesOwn.leaving (Zec hr (d_v 1) Zae)
  (Zag (Zoq (i:=0) (j:=1) rfl Zdn.nd rfl rfl (by decide) rfl rfl (d_v 1) (Zcp (d_v 0) (d_v 1)))))
  (Zag (Zan (d_cb Zep Zdc rfl T.z_abs Zhq (Zaa (d_v 0) Zac)))))⟩)
theorem Zic(T:Txt K mg)(D:Def K mg "_law_far" ZeG ["_law_cell", "_law_k", "_law_bound"])(c__law_mixed:Cal P w K mg base 1  "_law_mixed" ["_law_cell", "_law_k"] Zam):Cal P w K mg base 2  "_law_far" ["_law_cell", "_law_k", "_law_bound"] ZbZ:=by
 exact D.cal Zff (fun f cdv A outer s H E hr=>⟨_,(Zad (Zax (i:=3) Zff.nd rfl (Or.inl rfl) (ZaR (Zak c__law_mixed hr (by decide) rfl Zah (Zaa (d_v 0) (Zaa (d_v 1) Zac))) (ZkO (Zak c__law_mixed hr (by decide) rfl Zah (Zaa (d_v 0) (Zaa (ZaR (d_v 1) Zae) Zac))) Zae)))
  (Zag (Zan (Zcp (ZaR (ZaR (d_v 3) (ZkO (Zak c__law_mixed hr (by decide) rfl Zah (Zaa (d_v 0) (Zaa (ZaR (d_v 1) Zae) Zac))) Zae)) (ZkO (Zak c__law_mixed hr (by decide) rfl Zah (Zaa (d_v 0) (Zaa (ZaR (d_v 1) Zae) Zac))) Zae)) (d_v 2)))))⟩)
theorem ZeP(T:Txt K mg)(D:Def K mg "_law_fraction" Zb2 ["_law_cell", "_law_k"])(c__law_mixed:Cal P w K mg base 1  "_law_mixed" ["_law_cell", "_law_k"] Zam)(c__law_divisor:Cal P w K mg base 1  "_law_divisor" ["_law_one", "_law_other"] ZaM)(c__law_far:Cal P w K mg base 2  "_law_far" ["_law_cell", "_law_k", "_law_bound"] ZbZ):Cal P w K mg base 3  "_law_fraction" ["_law_cell", "_law_k"] ZaC:=by
 exact D.cal Za4 (fun f cdv A outer s H E hr=>⟨_,(Zad (Zax (i:=2) Za4.nd rfl (Or.inl rfl) (d_ix (Zce (Zaa Zae (Zaa (ZkL Zae Zae) (Zaa (ZkL Zae Zae) Zac)))) (Zcp (Zak c__law_mixed hr (by decide) rfl Zah (Zaa (d_v 0) (Zaa (d_v 1) Zac))) Zae)))
  (Zad (Zax (i:=3) Za4.nd rfl (Or.inl rfl) (ZaR (Zkx (Zak c__law_far hr (by decide) rfl Zah (Zaa (d_v 0) (Zaa (ZaR (d_v 1) Zae) (Zaa (Zkx (ZfP Zae (d_v 2)) Zae) Zac)))) (d_v 2)) Zae))
  (Zad (Zax (i:=4) Za4.nd rfl (Or.inl rfl) (ZaR Zae (Zak c__law_far hr (by decide) rfl Zah (Zaa (d_v 0) (Zaa (ZaR (d_v 1) Zae) (Zaa (d_ix (Zce (Zaa Zae (Zaa Zae (Zaa (Zkx (d_v 2) Zae) Zac)))) (Zcp (Zak c__law_mixed hr (by decide) rfl Zah (Zaa (d_v 0) (Zaa (ZaR (d_v 1) Zae) Zac))) Zae)) Zac))))))
  (Zad (Zax (i:=5) Za4.nd rfl (Or.inl rfl) (Zak c__law_divisor hr (by decide) rfl Zah (Zaa (d_v 3) (Zaa (d_v 4) Zac))))
  (Zag (Zan (ZgW (Zaa (Zji (d_v 3) (d_v 5)) (Zaa (Zji (d_v 4) (d_v 5)) Zac)))))))))⟩)
theorem Zhd(T:Txt K mg)(D:Def K mg "_law_part" ZdS ["_law_cell", "_law_k"])(c__law_divisor:Cal P w K mg base 1  "_law_divisor" ["_law_one", "_law_other"] ZaM)(c__law_fraction:Cal P w K mg base 3  "_law_fraction" ["_law_cell", "_law_k"] ZaC):Cal P w K mg base 4  "_law_part" ["_law_cell", "_law_k"] Zb3:=by
 exact D.cal Zdj (fun f cdv A outer s H E hr=>⟨_,(Zad (Zax (i:=2) Zdj.nd rfl (Or.inl rfl) (Zak c__law_fraction hr (by decide) rfl Zah (Zaa (d_v 0) (Zaa (d_v 1) Zac))))
  (Zad (ZaT (Zlt Zn4 Zkt Zn4 Zkt Zae (d_ix (d_v 2) Zae) (d_ix (d_v 2) Zae))
  (Zag (Zan (d_v 2)))
  Zap)
  (Zad (Zax (i:=3) Zdj.nd rfl (Or.inl rfl) (Zak c__law_divisor hr (by decide) rfl Zah (Zaa (Zcp (d_ix (d_v 2) Zae) (d_ix (d_v 2) Zae)) (Zaa (d_ix (d_v 2) Zae) Zac))))
  (Zag (Zan (ZgW (Zaa (Zji (Zcp (d_ix (d_v 2) Zae) (d_ix (d_v 2) Zae)) (d_v 3)) (Zaa (Zji (d_ix (d_v 2) Zae) (d_v 3)) Zac))))))))⟩)
theorem Zfk(T:Txt K mg)(D:Def K mg "_law_pattern" Zcn ["_law_cell"])(c__law_mixed:Cal P w K mg base 1  "_law_mixed" ["_law_cell", "_law_k"] Zam)(c__law_fraction:Cal P w K mg base 3  "_law_fraction" ["_law_cell", "_law_k"] ZaC):Cal P w K mg base 4  "_law_pattern" ["_law_cell"] Zbg:=by
 exact D.cal Zb7 (fun f cdv A outer s H E hr=>⟨_,(Zad (Zax (i:=1) Zb7.nd rfl (Or.inl rfl) (d_ix (Zce (Zaa Zae (Zaa Zae (Zaa Zae (Zaa Zae (Zaa Zae Zac)))))) (Zcp (Zak c__law_mixed hr (by decide) rfl Zah (Zaa (d_v 0) (Zaa Zae Zac))) Zae)))
  (Zad (Zax (i:=2) Zb7.nd rfl (Or.inr rfl) (d_ix (Zce (Zaa Zae (Zaa Zae (Zaa Zae (Zaa Zae (Zaa Zae Zac)))))) (Zcp (Zak c__law_mixed hr (by decide) rfl Zah (Zaa (d_v 0) (Zaa Zae Zac))) Zae)))
  (Zag (Zan (ZbC (own:=["_law_row_here"]) (cap:=[("_law_wide", 2),("_law_cell", 0)]) (Zi6 rfl T.z_range (Zaa (d_v 1) Zac)) (ZaG.of rfl rfl (by kernel_rfl) rfl ⟨rfl,rfl,trivial⟩ ⟨rfl,rfl,trivial⟩) rfl (fun _ _ _ _ _=>(ZaE (i:=0) (show List.Nodup (["_law_row_here", "_law_wide", "_law_cell"]:List Str) by decide +kernel) rfl (Or.inr rfl) (by decide))) (fun _ _ _ _ _=>ZaW) (fun _ _ _ _ _=>(ZbC (own:=["_law_at"]) (cap:=[("_law_wide", 1),("_law_row_here", 0),("_law_cell", 2)]) (Zi6 rfl T.z_range (Zaa (d_v 1) Zac)) (ZaG.of rfl rfl (by kernel_rfl) rfl ⟨rfl,rfl,rfl,trivial⟩ ⟨rfl,rfl,rfl,trivial⟩) rfl (fun _ _ _ _ _=>(ZaE (i:=0) (show List.Nodup (["_law_at", "_law_wide", "_law_row_here", "_law_cell"]:List Str) by decide +kernel) rfl (Or.inl rfl) (by decide))) (fun _ _ _ _ _=>ZaW) (fun _ _ _ _ _=>(ZbQ c__law_fraction hr (by decide) rfl (Zaa (d_v 3) (Zaa (ZaR Zae (ZfP Zae (ZaR (ZfP (d_v 1) (d_v 2)) (d_v 0)))) Zac)))))))))))⟩)
theorem ZgR(T:Txt K mg)(D:Def K mg "_law_kinds" Zdf ["_law_thing"])  : Cal P w K mg base 1  "_law_kinds" ["_law_thing"] ZbI:=by
 obtain ⟨K_Glass,k_Glass⟩:=T.c_Glass
 obtain ⟨K_Patterned,k_Patterned⟩:=T.c_Patterned
 obtain ⟨K_Plain,k_Plain⟩:=T.c_Plain
 obtain ⟨K_Shaded,k_Shaded⟩:=T.c_Shaded
 exact D.cal Zgm (fun f cdv A outer s H E hr=>⟨_,(Zag (Zan (Zce (Zaa (d_cb Zej (Zc9 T.tabo) rfl T.z_isinstance Zas (Zaa (d_v 0) (Zaa (Zjr rfl k_Plain) Zac))) (Zaa (d_cb Zej (Zc9 T.tabo) rfl T.z_isinstance Zas (Zaa (d_v 0) (Zaa (Zjr rfl k_Shaded) Zac))) (Zaa (d_cb Zej (Zc9 T.tabo) rfl T.z_isinstance Zas (Zaa (d_v 0) (Zaa (Zjr rfl k_Patterned) Zac))) (Zaa (d_cb Zej (Zc9 T.tabo) rfl T.z_isinstance Zas (Zaa (d_v 0) (Zaa (Zjr rfl k_Glass) Zac))) Zac)))))))⟩)
theorem Zgv(T:Txt K mg)(D:Def K mg "_law_alike" Zds ["_law_thing", "_law_kind", "_law_triangle", "_law_colour", "_law_pattern_here", "_law_part_here"])(c__law_kinds:Cal P w K mg base 1  "_law_kinds" ["_law_thing"] ZbI):Cal P w K mg base 2  "_law_alike" ["_law_thing", "_law_kind", "_law_triangle", "_law_colour", "_law_pattern_here", "_law_part_here"] ZbD:=by
 obtain ⟨K_Thing,k_Thing⟩:=T.c_Thing
 exact D.cal Zgc (fun f cdv A outer s H E hr=>⟨_,(Zad (ZaT (DW.dt (ZdX (Zbm (Zbd (d_cb Zej (Zc9 T.tabo) rfl T.z_isinstance Zas (Zaa (d_v 0) (Zaa (Zjr rfl k_Thing) Zac))))) (Zck (Zec hr (Zak c__law_kinds hr (by decide) rfl Zah (Zaa (d_v 0) Zac)) (ZbC (own:=["_law_k"]) (cap:=[("_law_kind", 1)]) (Zi6 rfl T.z_range (Zaa Zae Zac)) (ZaG.of rfl rfl (by kernel_rfl) rfl ⟨rfl,trivial⟩ ⟨rfl,trivial⟩) rfl (fun _ _ _ _ _=>(ZaE (i:=0) (show List.Nodup (["_law_k", "_law_kind"]:List Str) by decide +kernel) rfl (Or.inl rfl) (by decide))) (fun _ _ _ _ _=>ZaW) (fun _ _ _ _ _=>(d_eq hr (d_v 0) (d_v 1))))))))
  (Zag (Zan d_bl))
  Zap)
  (Zad (ZaT (DW.dt (ZdX (Zec hr (ZgH T.f_triangle (d_v 0)) (d_v 2)) (Zck (DW.dt (Zfe (ZqR hr (d_v 1) (ZgW (Zaa Zae (Zaa Zae Zac)))) (ZeC (Zec hr (ZgH T.f_colour (d_v 0)) (d_v 3))))))))
  (Zag (Zan d_bl))
  Zap)
  (Zag (Zan (Zkj (d_or (d_ne hr (d_v 1) Zae) (ZhW (d_eq hr (ZgH T.f_pattern (d_v 0)) (d_v 4)))) (ZhW (d_or (d_ne hr (d_v 1) Zae) (ZhW (d_eq hr (ZgH T.f_part (d_v 0)) (d_v 5))))))))))⟩)
theorem ZgT(T:Txt K mg)(D:Def K mg "check_text" Zc8 ["text"])  : Cal P w K mg base 1  "check_text" ["text"] Zcg:=by
 exact D.cal ZgD (fun f cdv A outer s H E hr=>⟨_,(Zag (ZaT (Zbm (Zbd (d_cb Zbf Zbj rfl T.z_isinstance Zas (Zaa (d_v 0) (Zaa (d_ty rfl T.z_str Zfg) Zac)))))
  Zdm
  Zap))⟩)
theorem Zhi(T:Txt K mg)(D:Def K mg "groups_of" ZdP ["words"])  : Cal P w K mg base 1  "groups_of" ["words"] Zb4:=by
 exact D.cal ZeL (fun f cdv A outer s H E hr=>⟨_,(ZnB (i:=1) (j:=2) (k:=0) ZeL.nd PassesOwn.leaving rfl (by decide) (by decide) rfl (Or.inl rfl) rfl (Or.inl rfl) rfl (ZcH hr (d_v 2) ZaJ))⟩)
theorem ZfN(T:Txt K mg)(D:Def K mg "are_figures" ZcI ["word"])  : Cal P w K mg base 1  "are_figures" ["word"] Zba:=by
 obtain ⟨tk_FIGURES,g_FIGURES⟩:=T.g_FIGURES
 obtain ⟨tk_MOST_FIGURES,g_MOST_FIGURES⟩:=T.g_MOST_FIGURES
 exact D.cal ZfY (fun f cdv A outer s H E hr=>⟨_,(Zad (ZaT (DW.dt (ZdX (ZcH hr (d_v 0) ZaJ) (Zck (Zly (d_cb ZlN Zi8 rfl T.z_len ZbB (Zaa (d_v 0) Zac)) (d_gi rfl g_MOST_FIGURES)))))
  (Zag (Zan d_bl))
  Zap)
  (Zad (ZaT (DW.dt (Zfe (Zbd (d_sm PySem.F.slot_str_startswith PySem.F.type_str_startswith Zg4 Zgb (d_v 0) ZaJ)) (ZeC (Zec hr (d_v 0) ZaJ))))
  (Zag (Zan d_bl))
  Zap)
  (Zag (Zan (d_cb (Zd9 rfl) Zd6 rfl T.z_all Zis (Zaa (ZbC (own:=["sign"]) (cap:=[]) (ZpL (d_v 0)) (ZaG.of rfl rfl (by kernel_rfl) rfl trivial trivial) rfl (fun _ _ _ _ _=>(ZaE (i:=0) (show List.Nodup (["sign"]:List Str) by decide +kernel) rfl (Or.inl rfl) (by decide))) (fun _ _ _ _ _=>ZaW) (fun _ _ _ _ _=>(Zq1 (d_v 0) (d_gs rfl g_FIGURES)))) Zac))))))⟩)
theorem ZfU(T:Txt K mg)(D:Def K mg "read_number" ZcM ["word"])(c_are_figures:Cal P w K mg base 1  "are_figures" ["word"] Zba):Cal P w K mg base 2  "read_number" ["word"] ZaK:=by
 exact D.cal ZdD (fun f cdv A outer s H E hr=>⟨_,(Zad (Zax (i:=1) ZdD.nd rfl (Or.inl rfl) (ZoQ (Zbd (d_sm PySem.F.slot_str_startswith PySem.F.type_str_startswith Zg4 Zgb (d_v 0) ZaJ)) (ZpB (d_v 0) (Zcu Zae) Zcy) (d_v 0)))
  (Zad (ZaT (DW.dt (ZdX (Zbm (Zbd (Zak c_are_figures hr (by decide) rfl Zah (Zaa (d_v 1) Zac)))) (Zck (ZcH hr (d_v 0) ZaJ))))
  Zdm
  Zap)
  (Zag (Zan (d_ct ZkJ Zi3 rfl T.z_int Zmo (Zaa (d_v 0) Zac))))))⟩)
theorem ZfL(T:Txt K mg)(D:Def K mg "read_corner" ZcL ["words"])(c_read_number:Cal P w K mg base 2  "read_number" ["word"] ZaK):Cal P w K mg base 3  "read_corner" ["words"] Zbr:=by
 exact D.cal ZdF (fun f cdv A outer s H E hr=>⟨_,(Zad (ZaT (Zlk (d_cb Zat ZaH rfl T.z_len ZbB (Zaa (d_v 0) Zac)) Zae)
  Zdm
  Zap)
  (Zad (Znz (i:=1) ZdF.nd rfl (Or.inl rfl) (own:=["word"]) (cap:=[]) (Zbc (d_v 0)) (ZaG.of rfl rfl (by kernel_rfl) rfl trivial trivial) rfl (fun _ _ _ _ _=>(ZaE (i:=0) (show List.Nodup (["word"]:List Str) by decide +kernel) rfl (Or.inl rfl) (by decide))) (fun _ _ _ _ _=>ZaW) (fun _ _ _ _ _=>(ZbQ c_read_number hr (by decide) rfl (Zaa (d_v 0) Zac))))
  (Zag (Zan (ZgW (Zaa (d_ix (d_v 1) Zae) (Zaa (d_ix (d_v 1) Zae) (Zaa (d_ix (d_v 1) Zae) (Zaa (d_ix (d_v 1) Zae) (Zaa (d_ct ZbV ZcT rfl T.z_tuple Zci (Zaa (ZgX (d_v 1) (Zcu Zae) Zcy) Zac)) Zac))))))))))⟩)
theorem ZeU(T:Txt K mg)(D:Def K mg "read_fraction" Zcc ["word"])(c_is_fraction:Cal P w K mg base 2  "is_fraction" ["thing"] ZaD)(c_read_number:Cal P w K mg base 2  "read_number" ["word"] ZaK):Cal P w K mg base 3  "read_fraction" ["word"] ZaB:=by
 exact D.cal ZbT (fun f cdv A outer s H E hr=>⟨_,(Zad (ZaT (Zoh ZaJ (d_v 0))
  (Zag (Zan (ZgW (Zaa (Zak c_read_number hr (by decide) rfl Zah (Zaa (d_v 0) Zac)) (Zaa Zae Zac)))))
  Zap)
  (Zad (Zax (i:=1) ZbT.nd rfl (Or.inl rfl) (d_sm PySem.F.slot_str_partition PySem.F.type_str_partition ZnR Zl4 (d_v 0) ZaJ))
  (Zad (Zax (i:=2) ZbT.nd rfl (Or.inl rfl) (ZgW (Zaa (Zak c_read_number hr (by decide) rfl Zah (Zaa (d_ix (d_v 1) Zae) Zac)) (Zaa (Zak c_read_number hr (by decide) rfl Zah (Zaa (d_ix (d_v 1) Zae) Zac)) Zac))))
  (Zad (ZaT (DW.dt (ZdX (ZcH hr (d_ix (d_v 2) Zae) Zae) (Zck (Zbm (Zbd (Zak c_is_fraction hr (by decide) rfl Zah (Zaa (d_v 2) Zac)))))))
  Zdm
  Zap)
  (Zag (Zan (d_v 2)))))))⟩)
theorem Ze4(T:Txt K mg)(D:Def K mg "read_pattern" ZcA ["word"])(c_read_fraction:Cal P w K mg base 3  "read_fraction" ["word"] ZaB):Cal P w K mg base 4  "read_pattern" ["word"] Zbi:=by
 exact D.cal Zfm (fun f cdv A outer s H E hr=>⟨_,(Zag (Zan (ZjB ⟨rfl,rfl,rfl,rfl⟩ (own:=["row"]) (cap:=[]) (Zbc (d_sm PySem.F.slot_str_split PySem.F.type_str_split Zgu Ze6 (d_v 0) ZaJ)) (ZaG.of rfl rfl (by kernel_rfl) rfl trivial trivial) rfl (fun _ _ _ _ _=>(ZaE (i:=0) (show List.Nodup (["row"]:List Str) by decide +kernel) rfl (Or.inl rfl) (by decide))) (fun _ _ _ _ _=>ZaW) (fun _ _ _ _ _=>(ZbC (own:=["entry"]) (cap:=[]) (Zbc (d_sm PySem.F.slot_str_split PySem.F.type_str_split Zgu Ze6 (d_v 0) ZaJ)) (ZaG.of rfl rfl (by kernel_rfl) rfl trivial trivial) rfl (fun _ _ _ _ _=>(ZaE (i:=0) (show List.Nodup (["entry"]:List Str) by decide +kernel) rfl (Or.inl rfl) (by decide))) (fun _ _ _ _ _=>ZaW) (fun _ _ _ _ _=>(ZbQ c_read_fraction hr (by decide) rfl (Zaa (d_v 0) Zac))))))))⟩)
theorem Zib(T:Txt K mg)(D:Def K mg "thing_of" Zex ["head", "triangle"])(ci_Glass:CalJ P w K mg base 7 "Glass" 3 objs Zdl)(ci_Patterned:CalJ P w K mg base 7 "Patterned" 2 objs Za7)(ci_Plain:CalJ P w K mg base 7 "Plain" 2 objs Zdt)(ci_Shaded:CalJ P w K mg base 7 "Shaded" 1 objs Zcj)(c_read_fraction:Cal P w K mg base 3  "read_fraction" ["word"] ZaB)(c_read_pattern:Cal P w K mg base 4  "read_pattern" ["word"] Zbi):Cal P w K mg base 9  "thing_of" ["head", "triangle"] ZcG:=by
 exact D.cal Zh3 (fun f cdv A outer s H E hr=>⟨_,(Zad (ZaT (DW.dt (Zfe (ZcH hr (ZgX (d_v 0) Zcy (Zcu Zae)) (Zce (Zaa ZaJ Zac))) (ZeC (ZcH hr (d_cb Zat ZaH rfl T.z_len ZbB (Zaa (d_v 0) Zac)) Zae))))
  (Zag (Zan (DEf.de (Zdg ci_Plain hr (by decide) rfl Zah (Zaa (d_v 1) (Zaa (Zak c_read_fraction hr (by decide) rfl Zah (Zaa (d_ix (d_v 0) Zae) Zac)) Zac))))))
  Zap)
  (Zad (ZaT (ZcH hr (d_v 0) (Zce (Zaa ZaJ Zac)))
  (Zag (Zan (DEf.de (Zdg ci_Shaded hr (by decide) rfl Zah (Zaa (d_v 1) Zac)))))
  Zap)
  (Zad (ZaT (DW.dt (Zfe (ZcH hr (ZgX (d_v 0) Zcy (Zcu Zae)) (Zce (Zaa ZaJ Zac))) (ZeC (ZcH hr (d_cb Zat ZaH rfl T.z_len ZbB (Zaa (d_v 0) Zac)) Zae))))
  (Zag (Zan (DEf.de (Zdg ci_Patterned hr (by decide) rfl Zah (Zaa (d_v 1) (Zaa (Zak c_read_pattern hr (by decide) rfl Zah (Zaa (d_ix (d_v 0) Zae) Zac)) Zac))))))
  Zap)
  (Zad (ZaT (DW.dt (Zfe (ZcH hr (ZgX (d_v 0) Zcy (Zcu Zae)) (Zce (Zaa ZaJ Zac))) (ZeC (ZcH hr (d_cb Zat ZaH rfl T.z_len ZbB (Zaa (d_v 0) Zac)) Zae))))
  (Zag (Zan (DEf.de (Zdg ci_Glass hr (by decide) rfl Zah (Zaa (d_v 1) (Zaa (Zak c_read_fraction hr (by decide) rfl Zah (Zaa (d_ix (d_v 0) Zae) Zac)) (Zaa (Zak c_read_fraction hr (by decide) rfl Zah (Zaa (d_ix (d_v 0) Zae) Zac)) Zac)))))))
  Zap)
  Zdm))))⟩)
theorem ZgE(T:Txt K mg)(D:Def K mg "read_thing" Zda ["row"])(c_check_text:Cal P w K mg base 1  "check_text" ["text"] Zcg)(c_groups_of:Cal P w K mg base 1  "groups_of" ["words"] Zb4)(c_read_corner:Cal P w K mg base 3  "read_corner" ["words"] Zbr)(c_thing_of:Cal P w K mg base 9  "thing_of" ["head", "triangle"] ZcG):Cal P w K mg base 10  "read_thing" ["row"] ZbP:=by
 exact D.cal Zd1 (fun f cdv A outer s H E hr=>⟨_,(Zad (ZpJ (Zak c_check_text hr (by decide) rfl Zah (Zaa (d_v 0) Zac)))
  (Zad (Zax (i:=1) Zd1.nd rfl (Or.inl rfl) (Zak c_groups_of hr (by decide) rfl Zah (Zaa (d_sm PySem.F.slot_str_split PySem.F.type_str_split Zgu Ze6 (d_v 0) ZaJ) Zac)))
  (Zad (ZaT (Zec hr (d_cb Zat ZaH rfl T.z_len ZbB (Zaa (d_v 1) Zac)) Zae)
  Zdm
  Zap)
  (Zag (Zan (Zak c_thing_of hr (by decide) rfl Zah (Zaa (d_ix (d_v 1) Zae) (Zaa (d_ct ZbV ZcT rfl T.z_tuple Zci (Zaa (ZjB ⟨rfl,rfl,rfl,rfl⟩ (own:=["words"]) (cap:=[]) (Zbc (ZgX (d_v 1) (Zcu Zae) Zcy)) (ZaG.of rfl rfl (by kernel_rfl) rfl trivial trivial) rfl (fun _ _ _ _ _=>(ZaE (i:=0) (show List.Nodup (["words"]:List Str) by decide +kernel) rfl (Or.inl rfl) (by decide))) (fun _ _ _ _ _=>ZaW) (fun _ _ _ _ _=>(ZnZ c_read_corner hr (by decide) rfl (Zaa (d_v 0) Zac)))) Zac)) Zac))))))))⟩)
theorem ZfT(T:Txt K mg)(D:Def K mg "number_word" ZcN ["number"])  : Cal P w K mg base 1  "number_word" ["number"] ZaI:=by
 exact D.cal Zcz (fun f cdv A outer s H E hr=>⟨_,(Zad (Zn9 (i:=1) Zcz.nd rfl (Or.inl rfl) Zac)
  (Zad (Zax (i:=2) Zcz.nd rfl (Or.inl rfl) (d_cb Zep Zdc rfl T.z_abs Zhq (Zaa (d_v 0) Zac)))
  (Zad (Zju PassesOwn.leaving (Zp9 (d_v 2) (ZkL Zae Zae))
  Zdm)
  (Zad (Zl9 1 (d_ct ZbF Zc4 rfl T.z_str Zfg (Zaa (d_v 2) Zac)))
  (Zad (ZaT (Zlk (d_v 0) Zae)
  (Zag (Zl9 1 ZaJ))
  Zap)
  (Zag (Zan (ZjT 1 rfl rfl T.z_reversed))))))))⟩)
theorem Zg0(T:Txt K mg)(D:Def K mg "numbers_of" Zdh ["corner"])  : Cal P w K mg base 1  "numbers_of" ["corner"] Zcf:=by
 exact D.cal ZgY (fun f cdv A outer s H E hr=>⟨_,(Zag (Zan (ZaR (d_ct ZbO ZcE rfl T.z_list ZdO (Zaa (ZgX (d_v 0) Zcy (Zcu Zae)) Zac)) (d_ct ZbO ZcE rfl T.z_list ZdO (Zaa (d_ix (d_v 0) Zae) Zac)))))⟩)
theorem ZfX(T:Txt K mg)(D:Def K mg "corner_text" ZcY ["corner"])(c_number_word:Cal P w K mg base 1  "number_word" ["number"] ZaI)(c_numbers_of:Cal P w K mg base 1  "numbers_of" ["corner"] Zcf):Cal P w K mg base 2  "corner_text" ["corner"] Zbs:=by
 exact D.cal ZfJ (fun f cdv A outer s H E hr=>⟨_,(Zag (Zan (d_sm PySem.F.slot_str_join PySem.F.type_str_join ZdK ZcW ZaJ (ZaR (Zce (Zaa ZaJ Zac)) (ZbC (own:=["number"]) (cap:=[]) (Zbc (Zak c_numbers_of hr (by decide) rfl Zah (Zaa (d_v 0) Zac))) (ZaG.of rfl rfl (by kernel_rfl) rfl trivial trivial) rfl (fun _ _ _ _ _=>(ZaE (i:=0) (show List.Nodup (["number"]:List Str) by decide +kernel) rfl (Or.inl rfl) (by decide))) (fun _ _ _ _ _=>ZaW) (fun _ _ _ _ _=>(ZbQ c_number_word hr (by decide) rfl (Zaa (d_v 0) Zac))))))))⟩)
theorem ZfK{f:Addr}{fd:FuncData}(T:Txt K mg)(F:Fun K "word" "Glass.word" ZcV f fd)  : FnOk P w K mg base (CXR P w) 1 f fd ["self"] (spD K mg 1 ZbW):=by
 exact okM F ZfO (fun cdv A outer s H E hr=>⟨_,(Zag (Zan ZaJ))⟩)
theorem Zek{f:Addr}{fd:FuncData}(T:Txt K mg)(F:Fun K "word" "Patterned.word" Zby f fd)  : FnOk P w K mg base (CXR P w) 1 f fd ["self"] (spD K mg 1 Za9):=by
 exact okM F Zen (fun cdv A outer s H E hr=>⟨_,(Zag (Zan ZaJ))⟩)
theorem ZfW{f:Addr}{fd:FuncData}(T:Txt K mg)(F:Fun K "word" "Plain.word" ZcO f fd)  : FnOk P w K mg base (CXR P w) 1 f fd ["self"] (spD K mg 1 ZbX):=by
 exact okM F ZfQ (fun cdv A outer s H E hr=>⟨_,(Zag (Zan ZaJ))⟩)
theorem Ze2{f:Addr}{fd:FuncData}(T:Txt K mg)(F:Fun K "word" "Shaded.word" Zcv f fd)  : FnOk P w K mg base (CXR P w) 1 f fd ["self"] (spD K mg 1 Zbz):=by
 exact okM F Ze7 (fun cdv A outer s H E hr=>⟨_,(Zag (Zan ZaJ))⟩)
theorem ZeR(T:Txt K mg)(D:Def K mg "fraction_word" Zb5 ["fraction"])(c_number_word:Cal P w K mg base 1  "number_word" ["number"] ZaI):Cal P w K mg base 2  "fraction_word" ["fraction"] Zau:=by
 exact D.cal ZeS (fun f cdv A outer s H E hr=>⟨_,(Zad (ZaT (ZcH hr (d_ix (d_v 0) Zae) Zae)
  (Zag (Zan (Zak c_number_word hr (by decide) rfl Zah (Zaa (d_ix (d_v 0) Zae) Zac))))
  Zap)
  (Zag (Zan (ZaR (ZaR (Zak c_number_word hr (by decide) rfl Zah (Zaa (d_ix (d_v 0) Zae) Zac)) ZaJ) (Zak c_number_word hr (by decide) rfl Zah (Zaa (d_ix (d_v 0) Zae) Zac))))))⟩)
theorem Ze3(T:Txt K mg)(D:Def K mg "pattern_word" Zcw ["pattern"])(c_fraction_word:Cal P w K mg base 2  "fraction_word" ["fraction"] Zau):Cal P w K mg base 3  "pattern_word" ["pattern"] Zbh:=by
 exact D.cal Zfv (fun f cdv A outer s H E hr=>⟨_,(Zag (Zan (d_sm PySem.F.slot_str_join PySem.F.type_str_join ZdK ZcW ZaJ (ZbC (own:=["row"]) (cap:=[]) (Zbc (d_v 0)) (ZaG.of rfl rfl (by kernel_rfl) rfl trivial trivial) rfl (fun _ _ _ _ _=>(ZaE (i:=0) (show List.Nodup (["row"]:List Str) by decide +kernel) rfl (Or.inl rfl) (by decide))) (fun _ _ _ _ _=>ZaW) (fun _ _ _ _ _=>(d_sm PySem.F.slot_str_join PySem.F.type_str_join ZdK ZcW ZaJ (ZbC (own:=["entry"]) (cap:=[]) (Zbc (d_v 0)) (ZaG.of rfl rfl (by kernel_rfl) rfl trivial trivial) rfl (fun _ _ _ _ _=>(ZaE (i:=0) (show List.Nodup (["entry"]:List Str) by decide +kernel) rfl (Or.inl rfl) (by decide))) (fun _ _ _ _ _=>ZaW) (fun _ _ _ _ _=>(ZbQ c_fraction_word hr (by decide) rfl (Zaa (d_v 0) Zac))))))))))⟩)
theorem Zgh(T:Txt K mg)(D:Def K mg "head_words" Zc6 ["thing"])(cm_word:Zel P w K mg base 1 0 "word" Zgj)(c_fraction_word:Cal P w K mg base 2  "fraction_word" ["fraction"] Zau)(c_pattern_word:Cal P w K mg base 3  "pattern_word" ["pattern"] Zbh):Cal P w K mg base 4  "head_words" ["thing"] ZbK:=by
 exact D.cal Zeb (fun f cdv A outer s H E hr=>⟨_,(Zad (Zax (i:=1) Zeb.nd rfl (Or.inl rfl) (ZnS cm_word hr (by decide) Zah (d_v 0)))
  (Zad (ZaT (ZcH hr (d_v 1) ZaJ)
  (Zag (Zan (Zce (Zaa (d_v 1) (Zaa (Zak c_fraction_word hr (by decide) rfl Zah (Zaa (ZgH T.f_colour (d_v 0)) Zac)) Zac)))))
  Zap)
  (Zad (ZaT (ZcH hr (d_v 1) ZaJ)
  (Zag (Zan (Zce (Zaa (d_v 1) (Zaa (Zak c_pattern_word hr (by decide) rfl Zah (Zaa (ZgH T.f_pattern (d_v 0)) Zac)) Zac)))))
  Zap)
  (Zad (ZaT (ZcH hr (d_v 1) ZaJ)
  (Zag (Zan (Zce (Zaa (d_v 1) (Zaa (Zak c_fraction_word hr (by decide) rfl Zah (Zaa (ZgH T.f_colour (d_v 0)) Zac)) (Zaa (Zak c_fraction_word hr (by decide) rfl Zah (Zaa (ZgH T.f_part (d_v 0)) Zac)) Zac))))))
  Zap)
  (Zag (Zan (Zce (Zaa (d_v 1) Zac))))))))⟩)
theorem Zgl(T:Txt K mg)(D:Def K mg "thing_text" Zdk ["thing"])(c_corner_text:Cal P w K mg base 2  "corner_text" ["corner"] Zbs)(c_head_words:Cal P w K mg base 4  "head_words" ["thing"] ZbK):Cal P w K mg base 5  "thing_text" ["thing"] Za8:=by
 exact D.cal Zgk (fun f cdv A outer s H E hr=>⟨_,(Zag (Zan (d_sm PySem.F.slot_str_join PySem.F.type_str_join ZdK ZcW ZaJ (ZaR (Zak c_head_words hr (by decide) rfl Zah (Zaa (d_v 0) Zac)) (ZbC (own:=["corner"]) (cap:=[]) (Zbc (ZgH T.f_triangle (d_v 0))) (ZaG.of rfl rfl (by kernel_rfl) rfl trivial trivial) rfl (fun _ _ _ _ _=>(ZaE (i:=0) (show List.Nodup (["corner"]:List Str) by decide +kernel) rfl (Or.inl rfl) (by decide))) (fun _ _ _ _ _=>ZaW) (fun _ _ _ _ _=>(ZbQ c_corner_text hr (by decide) rfl (Zaa (d_v 0) Zac))))))))⟩)
theorem Zgp(T:Txt K mg)(D:Def K mg "_law_right" Zdd ["_law_thing", "_law_kind", "_law_row_here", "_law_triangle", "_law_colour", "_law_pattern_here", "_law_part_here"])(c__law_alike:Cal P w K mg base 2  "_law_alike" ["_law_thing", "_law_kind", "_law_triangle", "_law_colour", "_law_pattern_here", "_law_part_here"] ZbD)(c_read_thing:Cal P w K mg base 10  "read_thing" ["row"] ZbP)(c_thing_text:Cal P w K mg base 5  "thing_text" ["thing"] Za8):Cal P w K mg base 11  "_law_right" ["_law_thing", "_law_kind", "_law_row_here", "_law_triangle", "_law_colour", "_law_pattern_here", "_law_part_here"] ZbM:=by
 exact D.cal ZcU (fun f cdv A outer s H E hr=>⟨_,(Zad (Zax (i:=7) ZcU.nd rfl (Or.inl rfl) (Zak c_thing_text hr (by decide) rfl Zah (Zaa (d_v 0) Zac)))
  (Zad (ZaT (DW.dt (ZdX (Zbm (Zbd (d_cb Zbf Zbj rfl T.z_isinstance Zas (Zaa (d_v 7) (Zaa (d_ty rfl T.z_str Zfg) Zac))))) (Zck (Zec hr (d_v 7) (d_v 2)))))
  (Zag (Zan d_bl))
  Zap)
  (Zad (Zax (i:=8) ZcU.nd rfl (Or.inl rfl) (Zak c_read_thing hr (by decide) rfl Zah (Zaa (d_v 2) Zac)))
  (Zad (ZaT (Zbm (Zbd (Zak c__law_alike hr (by decide) rfl Zah (Zaa (d_v 8) (Zaa (d_v 1) (Zaa (d_v 3) (Zaa (d_v 4) (Zaa (d_v 5) (Zaa (d_v 6) Zac)))))))))
  (Zag (Zan d_bl))
  Zap)
  (Zag (Zan (Zkj (d_eq hr (Zak c_thing_text hr (by decide) rfl Zah (Zaa (d_v 8) Zac)) (d_v 2)) (ZhW (d_eq hr (Zak c_thing_text hr (by decide) rfl Zah (Zaa (d_v 0) Zac)) (d_v 2))))))))))⟩)
theorem ZhZ(T:Txt K mg)(D:Def K mg "_law_row" Zey ["_law_head", "_law_triangle"])  : Cal P w K mg base 1  "_law_row" ["_law_head", "_law_triangle"] ZcC:=by
 exact D.cal ZcS (fun f cdv A outer s H E hr=>⟨_,(Zad (Zax (i:=2) ZcS.nd rfl (Or.inl rfl) (d_v 0))
  (Zad (Zfz PassesOwn.leaving rfl (Zbc (d_v 1)) (ZaE (i:=3) ZcS.nd rfl (Or.inl rfl) (by decide))
  (Zag (Zax (i:=2) ZcS.nd rfl (Or.inl rfl) (ZaR (ZaR (d_v 2) ZaJ) (d_sm PySem.F.slot_str_join PySem.F.type_str_join ZdK ZcW ZaJ (ZbC (own:=["_law_number_here"]) (cap:=[]) (Zbc (ZaR (d_ct ZbO ZcE rfl T.z_list ZdO (Zaa (ZgX (d_v 3) Zcy (Zcu Zae)) Zac)) (d_ct ZbO ZcE rfl T.z_list ZdO (Zaa (d_ix (d_v 3) Zae) Zac)))) (ZaG.of rfl rfl (by kernel_rfl) rfl trivial trivial) rfl (fun _ _ _ _ _=>(ZaE (i:=0) (show List.Nodup (["_law_number_here"]:List Str) by decide +kernel) rfl (Or.inl rfl) (by decide))) (fun _ _ _ _ _=>ZaW) (fun _ _ _ _ _=>(d_ct ZbF Zc4 rfl T.z_str Zfg (Zaa (d_v 0) Zac)))))))))
  (Zag (Zan (d_v 2)))))⟩)
theorem ZhJ(T:Txt K mg)(D:Def K mg "_law_word" ZdQ ["_law_fraction_here"])  : Cal P w K mg base 1  "_law_word" ["_law_fraction_here"] Za0:=by
 exact D.cal Zhy (fun f cdv A outer s H E hr=>⟨_,(Zad (ZaT (ZcH hr (d_ix (d_v 0) Zae) Zae)
  (Zag (Zan (d_ct ZbF Zc4 rfl T.z_str Zfg (Zaa (d_ix (d_v 0) Zae) Zac))))
  Zap)
  (Zag (Zan (ZaR (ZaR (d_ct ZbF Zc4 rfl T.z_str Zfg (Zaa (d_ix (d_v 0) Zae) Zac)) ZaJ) (d_ct ZbF Zc4 rfl T.z_str Zfg (Zaa (d_ix (d_v 0) Zae) Zac))))))⟩)
theorem ZpZ{f:Addr}{fd:FuncData}(T:Txt K mg)(F:Fun K "law" "law" Zgq f fd)(ci_Glass:CalJ P w K mg base 7 "Glass" 3 objs Zdl)(ci_Patterned:CalJ P w K mg base 7 "Patterned" 2 objs Za7)(ci_Plain:CalJ P w K mg base 7 "Plain" 2 objs Zdt)(ci_Shaded:CalJ P w K mg base 7 "Shaded" 1 objs Zcj)(c__law_mixed:Cal P w K mg base 1  "_law_mixed" ["_law_cell", "_law_k"] Zam)(c__law_corner:Cal P w K mg base 3  "_law_corner" ["_law_cell", "_law_k", "_law_many"] Zbb)(c__law_fraction:Cal P w K mg base 3  "_law_fraction" ["_law_cell", "_law_k"] ZaC)(c__law_part:Cal P w K mg base 4  "_law_part" ["_law_cell", "_law_k"] Zb3)(c__law_pattern:Cal P w K mg base 4  "_law_pattern" ["_law_cell"] Zbg)(c_fraction_word:Cal P w K mg base 2  "fraction_word" ["fraction"] Zau)(c__law_right:Cal P w K mg base 11  "_law_right" ["_law_thing", "_law_kind", "_law_row_here", "_law_triangle", "_law_colour", "_law_pattern_here", "_law_part_here"] ZbM)(c__law_row:Cal P w K mg base 1  "_law_row" ["_law_head", "_law_triangle"] ZcC)(c__law_word:Cal P w K mg base 1  "_law_word" ["_law_fraction_here"] Za0):FnOk P w K mg base (CXR P w) 12 f fd ["_law_script"] (spD K mg 1 Zoa):=by
 exact okD F Zcm (fun cdv A outer s H E hr=>⟨_,(Zad (Zfz PassesOwn.leaving rfl (Zbc (ZaR (Zce (Zaa Zae (Zaa Zae Zac))) (ZgX (d_v 0) Zcy (Zcu Zae)))) (ZaE (i:=1) Zcm.nd rfl (Or.inr rfl) (by decide))
  (Zad (Zax (i:=2) Zcm.nd rfl (Or.inl rfl) (Zak c__law_fraction hr (by decide) rfl Zah (Zaa (d_v 1) (Zaa Zae Zac))))
  (Zad (Zax (i:=3) Zcm.nd rfl (Or.inl rfl) (d_ix (Zce (Zaa (ZgW (Zaa Zae (Zaa Zae Zac))) (Zaa (ZgW (Zaa Zae (Zaa Zae Zac))) (Zaa (Zak c__law_part hr (by decide) rfl Zah (Zaa (d_v 1) (Zaa Zae Zac))) Zac)))) (Zcp (Zak c__law_mixed hr (by decide) rfl Zah (Zaa (d_v 1) (Zaa Zae Zac))) Zae)))
  (Zad (Zax (i:=4) Zcm.nd rfl (Or.inl rfl) (Zak c__law_pattern hr (by decide) rfl Zah (Zaa (d_v 1) Zac)))
  (Zad (ZaT (Zec hr (Zak c_fraction_word hr (by decide) rfl Zah (Zaa (d_v 2) Zac)) (Zak c__law_word hr (by decide) rfl Zah (Zaa (d_v 2) Zac)))
  (Zag (Zan d_bl))
  Zap)
  (Zad (Zax (i:=5) Zcm.nd rfl (Or.inl rfl) (d_sm PySem.F.slot_str_join PySem.F.type_str_join ZdK ZcW ZaJ (ZbC (own:=["_law_line"]) (cap:=[]) (Zbc (d_v 4)) (ZaG.of rfl rfl (by kernel_rfl) rfl trivial trivial) rfl (fun _ _ _ _ _=>(ZaE (i:=0) (show List.Nodup (["_law_line"]:List Str) by decide +kernel) rfl (Or.inl rfl) (by decide))) (fun _ _ _ _ _=>ZaW) (fun _ _ _ _ _=>(d_sm PySem.F.slot_str_join PySem.F.type_str_join ZdK ZcW ZaJ (ZbC (own:=["_law_one"]) (cap:=[]) (Zbc (d_v 0)) (ZaG.of rfl rfl (by kernel_rfl) rfl trivial trivial) rfl (fun _ _ _ _ _=>(ZaE (i:=0) (show List.Nodup (["_law_one"]:List Str) by decide +kernel) rfl (Or.inl rfl) (by decide))) (fun _ _ _ _ _=>ZaW) (fun _ _ _ _ _=>(ZbQ c__law_word hr (by decide) rfl (Zaa (d_v 0) Zac)))))))))
  (Zag (Zfz PassesOwn.leaving rfl (Zi6 rfl T.z_range (Zaa Zae Zac)) (ZaE (i:=6) Zcm.nd rfl (Or.inl rfl) (by decide))
  (Zad (Zax (i:=7) Zcm.nd rfl (Or.inr rfl) (ZaR (d_ix (Zce (Zaa Zae (Zaa Zae (Zaa Zae (Zaa Zae Zac))))) (d_v 6)) (Zcp (Zak c__law_mixed hr (by decide) rfl Zah (Zaa (d_v 1) (Zaa (ZaR Zae (d_v 6)) Zac))) (d_ix (Zce (Zaa Zae (Zaa Zae (Zaa Zae (Zaa Zae Zac))))) (d_v 6)))))
  (Zad (Zax (i:=8) Zcm.nd rfl (Or.inl rfl) (d_ct ZbV ZcT rfl T.z_tuple Zci (Zaa (ZbC (own:=["_law_k"]) (cap:=[("_law_many", 7),("_law_cell", 1)]) (Zi6 rfl T.z_range (Zaa Zae Zac)) (ZaG.of rfl rfl (by kernel_rfl) rfl ⟨rfl,rfl,trivial⟩ ⟨rfl,rfl,trivial⟩) rfl (fun _ _ _ _ _=>(ZaE (i:=0) (show List.Nodup (["_law_k", "_law_many", "_law_cell"]:List Str) by decide +kernel) rfl (Or.inl rfl) (by decide))) (fun _ _ _ _ _=>ZaW) (fun _ _ _ _ _=>(ZbQ c__law_corner hr (by decide) rfl (Zaa (d_v 2) (Zaa (ZfP Zae (d_v 0)) (Zaa (d_v 1) Zac)))))) Zac)))
  (Zad (Zax (i:=9) Zcm.nd rfl (Or.inl rfl) (d_ix (Zce (Zaa (ZaR ZaJ (Zak c__law_word hr (by decide) rfl Zah (Zaa (d_v 2) Zac))) (Zaa ZaJ (Zaa (ZaR ZaJ (d_v 5)) Zac)))) (Zcp (d_v 6) Zae)))
  (Zad (Zax (i:=10) Zcm.nd rfl (Or.inl rfl) (ZoQ (ZcH hr (d_v 6) Zae) (DEf.de (Zdg ci_Shaded hr (by decide) rfl Zah (Zaa (d_v 8) Zac))) (DEf.de (Zdg ci_Plain hr (by decide) rfl Zah (Zaa (d_v 8) (Zaa (d_v 2) Zac))))))
  (Zad (ZaT (ZcH hr (d_v 6) Zae)
  (Zag (Zax (i:=10) Zcm.nd rfl (Or.inl rfl) (DEf.de (Zdg ci_Patterned hr (by decide) rfl Zah (Zaa (d_v 8) (Zaa (d_v 4) Zac))))))
  Zap)
  (Zad (ZaT (ZcH hr (d_v 6) Zae)
  (Zad (Zax (i:=10) Zcm.nd rfl (Or.inl rfl) (DEf.de (Zdg ci_Glass hr (by decide) rfl Zah (Zaa (d_v 8) (Zaa (d_v 2) (Zaa (d_v 3) Zac))))))
  (Zag (Zax (i:=9) Zcm.nd rfl (Or.inl rfl) (ZaR (ZaR (ZaR ZaJ (Zak c__law_word hr (by decide) rfl Zah (Zaa (d_v 2) Zac))) ZaJ) (Zak c__law_word hr (by decide) rfl Zah (Zaa (d_v 3) Zac))))))
  Zap)
  (Zag (ZaT (Zbm (Zbd (Zak c__law_right hr (by decide) rfl Zah (Zaa (d_v 10) (Zaa (d_v 6) (Zaa (Zak c__law_row hr (by decide) rfl Zah (Zaa (d_v 9) (Zaa (d_v 8) Zac))) (Zaa (d_v 8) (Zaa (d_v 2) (Zaa (d_v 4) (Zaa (d_v 3) Zac))))))))))
  (Zag (Zan d_bl))
  Zap))))))))))))))))
  (Zag (Zan d_bl)))⟩)
end
theorem ln1{P:List Value→Prop}(q:∀a,P [a]):∀us,us.length=1→P us:=by intro us h;rcases us with _|⟨a,_|_⟩<;>first | exact q _ | cases h
theorem ln2{P:List Value→Prop}(q:∀a b,P [a,b]):∀us,us.length=2→P us:=by intro us h;rcases us with _|⟨a,_|⟨b,_|_⟩⟩<;>first | exact q _ _ | cases h
theorem ln3{P:List Value→Prop}(q:∀a b c,P [a,b,c]):∀us,us.length=3→P us:=by intro us h;rcases us with _|⟨a,_|⟨b,_|⟨c,_|_⟩⟩⟩<;>first | exact q _ _ _ | cases h
theorem ln4{P:List Value→Prop}(q:∀a b c d,P [a,b,c,d]):∀us,us.length=4→P us:=by intro us h;rcases us with _|⟨a,_|⟨b,_|⟨c,_|⟨d,_|_⟩⟩⟩⟩<;>first | exact q _ _ _ _ | cases h
theorem ln6{P:List Value→Prop}(q:∀a b c d e f,P [a,b,c,d,e,f]):∀us,us.length=6→P us:=by intro us h;rcases us with _|⟨a,_|⟨b,_|⟨c,_|⟨d,_|⟨e,_|⟨f,_|_⟩⟩⟩⟩⟩⟩<;>first | exact q _ _ _ _ _ _ | cases h
theorem ln7{P:List Value→Prop}(q:∀a b c d e f g,P [a,b,c,d,e,f,g]):∀us,us.length=7→P us:=by intro us h;rcases us with _|⟨a,_|⟨b,_|⟨c,_|⟨d,_|⟨e,_|⟨f,_|⟨g,_|_⟩⟩⟩⟩⟩⟩⟩<;>first | exact q _ _ _ _ _ _ _ | cases h
theorem dmk{K:W.Frag}{mg:Str→Option Value}{x:Str}{st:Stmt}{ps:List Str}{f:Addr}{fd:FuncData}(F:Fun K x x st f fd)(b:Binds K fd ps [])(m:mg x=some (.ref f)):Def K mg x st ps:=⟨f,fd,F,b,m⟩
local macro_rules | `(tactic| walk_at "b1")=>`(tactic| exact fun _ _ _ _ _ _=>My.ln1 fun _=>rfl)
local macro_rules | `(tactic| walk_at "b2")=>`(tactic| exact fun _ _ _ _ _ _=>My.ln2 fun _ _=>rfl)
local macro_rules | `(tactic| walk_at "b3")=>`(tactic| exact fun _ _ _ _ _ _=>My.ln3 fun _ _ _=>rfl)
local macro_rules | `(tactic| walk_at "b4")=>`(tactic| exact fun _ _ _ _ _ _=>My.ln4 fun _ _ _ _=>rfl)
local macro_rules | `(tactic| walk_at "b6")=>`(tactic| exact fun _ _ _ _ _ _=>My.ln6 fun _ _ _ _ _ _=>rfl)
local macro_rules | `(tactic| walk_at "b7")=>`(tactic| exact fun _ _ _ _ _ _=>My.ln7 fun _ _ _ _ _ _ _=>rfl)
abbrev NI(K:W.Frag)(x:Str)(f:Addr):Prop:=W.nsIn K mainGlobals x=some (some (.ref f))
abbrev Df(K:W.Frag)(x q:Str)(st:Stmt)(f:Addr):Prop:=∃fd,Fun K x q st f fd
theorem Zoo{l:W.OpenLaw}{w:World}{K:W.Frag}{h:Heap}{mg:Str→Option Value}{fa f6 f11 f15 f16 f17 f40 f41 f42 f43 f51:Addr}(X:K.In h)(G:h.Ns mainGlobals mg)(hfa:mg "law"=some (.ref fa))
  {od51 an51:Option Addr} {sl51:Array (Option Value)} {oc51 kV51 dc51 pm51 cd51 ct51:Value} {tk0 tk1 tk2 gtk0_0 gtk0_1 gtk0_2 gtk0_3 gtk0_4:Tok} {GA0 C0 C1 C2 C3 C4 X0 X1 X2 OC_Glass OC_Patterned OC_Plain OC_Shaded OC_Thing:Addr} {godt0:Option Addr} {gnn0:Nat} {gsl0:Array (Option Value)}
  (ob_Glass:NI K "Glass" OC_Glass)
  (ob_Patterned:NI K "Patterned" OC_Patterned)
  (ob_Plain:NI K "Plain" OC_Plain)
  (ob_Shaded:NI K "Shaded" OC_Shaded)
  (ob_Thing:NI K "Thing" OC_Thing)
  (D1:Def K mg "check_before_eye" Zbo ["corners"])
  (D2:Def K mg "is_whole" ZeI ["thing"])
  (D3:Def K mg "are_values" Zdr ["thing"])
  (D4:Def K mg "is_corner" ZdY ["thing"])
  (D5:Def K mg "check_triangle" ZbU ["triangle"])
  (a6:W.findIn K (.ref OC_Thing) "__init__"=some (some (.ref f6))) (d6:Df K "__init__" "Thing.__init__" Zbu f6) (q6:W.isFn K (.ref f6)=true)
  (D7:Def K mg "greatest_divisor" Zbq ["numbers"])
  (D8:Def K mg "is_fraction" ZcK ["thing"])
  (D9:Def K mg "check_colour" Zcx ["colour"])
  (D10:Def K mg "check_part" Zdq ["part"])
  (a11:W.findIn K (.ref OC_Glass) "__init__"=some (some (.ref f11))) (d11:Df K "__init__" "Glass.__init__" Zbx f11) (q11:W.isFn K (.ref f11)=true)
  (D12:Def K mg "check_pattern" Zb8 ["pattern"])
  (D13:Def K mg "check_values" Zcr ["triangle", "least"])
  (D14:Def K mg "copied" Zgo ["pattern"])
  (a15:W.findIn K (.ref OC_Patterned) "__init__"=some (some (.ref f15))) (d15:Df K "__init__" "Patterned.__init__" Za6 f15) (q15:W.isFn K (.ref f15)=true)
  (a16:W.findIn K (.ref OC_Plain) "__init__"=some (some (.ref f16))) (d16:Df K "__init__" "Plain.__init__" Zbv f16) (q16:W.isFn K (.ref f16)=true)
  (a17:W.findIn K (.ref OC_Shaded) "__init__"=some (some (.ref f17))) (d17:Df K "__init__" "Shaded.__init__" Zbn f17) (q17:W.isFn K (.ref f17)=true)
  (D18:Def K mg "_law_mixed" Zc5 ["_law_cell", "_law_k"])
  (D19:Def K mg "_law_number" ZcX ["_law_cell", "_law_k"])
  (D20:Def K mg "_law_corner" ZcQ ["_law_cell", "_law_k", "_law_many"])
  (D21:Def K mg "_law_divisor" Zcq ["_law_one", "_law_other"])
  (D22:Def K mg "_law_far" ZeG ["_law_cell", "_law_k", "_law_bound"])
  (D23:Def K mg "_law_fraction" Zb2 ["_law_cell", "_law_k"])
  (D24:Def K mg "_law_part" ZdS ["_law_cell", "_law_k"])
  (D25:Def K mg "_law_pattern" Zcn ["_law_cell"])
  (D26:Def K mg "_law_kinds" Zdf ["_law_thing"])
  (D27:Def K mg "_law_alike" Zds ["_law_thing", "_law_kind", "_law_triangle", "_law_colour", "_law_pattern_here", "_law_part_here"])
  (D28:Def K mg "check_text" Zc8 ["text"])
  (D29:Def K mg "groups_of" ZdP ["words"])
  (D30:Def K mg "are_figures" ZcI ["word"])
  (D31:Def K mg "read_number" ZcM ["word"])
  (D32:Def K mg "read_corner" ZcL ["words"])
  (D33:Def K mg "read_fraction" Zcc ["word"])
  (D34:Def K mg "read_pattern" ZcA ["word"])
  (D35:Def K mg "thing_of" Zex ["head", "triangle"])
  (D36:Def K mg "read_thing" Zda ["row"])
  (D37:Def K mg "number_word" ZcN ["number"])
  (D38:Def K mg "numbers_of" Zdh ["corner"])
  (D39:Def K mg "corner_text" ZcY ["corner"])
  (a40:W.findIn K (.ref OC_Glass) "word"=some (some (.ref f40))) (d40:Df K "word" "Glass.word" ZcV f40) (q40:W.isFn K (.ref f40)=true)
  (a41:W.findIn K (.ref OC_Patterned) "word"=some (some (.ref f41))) (d41:Df K "word" "Patterned.word" Zby f41) (q41:W.isFn K (.ref f41)=true)
  (a42:W.findIn K (.ref OC_Plain) "word"=some (some (.ref f42))) (d42:Df K "word" "Plain.word" ZcO f42) (q42:W.isFn K (.ref f42)=true)
  (a43:W.findIn K (.ref OC_Shaded) "word"=some (some (.ref f43))) (d43:Df K "word" "Shaded.word" Zcv f43) (q43:W.isFn K (.ref f43)=true)
  (D44:Def K mg "fraction_word" Zb5 ["fraction"])
  (D45:Def K mg "pattern_word" Zcw ["pattern"])
  (D46:Def K mg "head_words" Zc6 ["thing"])
  (D47:Def K mg "thing_text" Zdk ["thing"])
  (D48:Def K mg "_law_right" Zdd ["_law_thing", "_law_kind", "_law_row_here", "_law_triangle", "_law_colour", "_law_pattern_here", "_law_part_here"])
  (D49:Def K mg "_law_row" Zey ["_law_head", "_law_triangle"])
  (D50:Def K mg "_law_word" ZdQ ["_law_fraction_here"])
  (a51:W.nsIn K mainGlobals "law"=some (some (.ref f51))) (l51:K.lookup f51=some ⟨oc51,od51,.func (W.fnOf "law" "law" (ZdU Zgq) (ZbS Zgq) (Zaf Zgq) .none kV51 dc51 pm51 an51 cd51 ct51),sl51⟩) (c51:W.codeIn K cd51 "law"=true) (k51:W.keepIn K (.ref f51)=true)
  (og_Glass:W.plainGet K OC_Glass Str.empty=true) (oh_Glass:W.hasDictIn K OC_Glass=true) (oo_Glass:W.plainOver K OC_Glass=true) (os_Glass:W.findIn K (.ref OC_Glass) "__setattr__"=some (some (.builtin "object.__setattr__")))
  (on_Glass_colour:W.findIn K (.ref OC_Glass) "colour"=some none)
  (on_Glass_part:W.findIn K (.ref OC_Glass) "part"=some none)
  (on_Glass_pattern:W.findIn K (.ref OC_Glass) "pattern"=some none)
  (on_Glass_triangle:W.findIn K (.ref OC_Glass) "triangle"=some none)
  (ot_Glass_word:W.findIn K (.ref OC_Glass) "word"=some (some (.ref f40)))
  (om_Glass:W.makesIn K OC_Glass=true) (ok_Glass:W.keepIn K (.ref OC_Glass)=true)
  (og_Patterned:W.plainGet K OC_Patterned Str.empty=true) (oh_Patterned:W.hasDictIn K OC_Patterned=true) (oo_Patterned:W.plainOver K OC_Patterned=true) (os_Patterned:W.findIn K (.ref OC_Patterned) "__setattr__"=some (some (.builtin "object.__setattr__")))
  (on_Patterned_colour:W.findIn K (.ref OC_Patterned) "colour"=some none)
  (on_Patterned_part:W.findIn K (.ref OC_Patterned) "part"=some none)
  (on_Patterned_pattern:W.findIn K (.ref OC_Patterned) "pattern"=some none)
  (on_Patterned_triangle:W.findIn K (.ref OC_Patterned) "triangle"=some none)
  (ot_Patterned_word:W.findIn K (.ref OC_Patterned) "word"=some (some (.ref f41)))
  (om_Patterned:W.makesIn K OC_Patterned=true) (ok_Patterned:W.keepIn K (.ref OC_Patterned)=true)
  (og_Plain:W.plainGet K OC_Plain Str.empty=true) (oh_Plain:W.hasDictIn K OC_Plain=true) (oo_Plain:W.plainOver K OC_Plain=true) (os_Plain:W.findIn K (.ref OC_Plain) "__setattr__"=some (some (.builtin "object.__setattr__")))
  (on_Plain_colour:W.findIn K (.ref OC_Plain) "colour"=some none)
  (on_Plain_part:W.findIn K (.ref OC_Plain) "part"=some none)
  (on_Plain_pattern:W.findIn K (.ref OC_Plain) "pattern"=some none)
  (on_Plain_triangle:W.findIn K (.ref OC_Plain) "triangle"=some none)
  (ot_Plain_word:W.findIn K (.ref OC_Plain) "word"=some (some (.ref f42)))
  (om_Plain:W.makesIn K OC_Plain=true) (ok_Plain:W.keepIn K (.ref OC_Plain)=true)
  (og_Shaded:W.plainGet K OC_Shaded Str.empty=true) (oh_Shaded:W.hasDictIn K OC_Shaded=true) (oo_Shaded:W.plainOver K OC_Shaded=true) (os_Shaded:W.findIn K (.ref OC_Shaded) "__setattr__"=some (some (.builtin "object.__setattr__")))
  (on_Shaded_colour:W.findIn K (.ref OC_Shaded) "colour"=some none)
  (on_Shaded_part:W.findIn K (.ref OC_Shaded) "part"=some none)
  (on_Shaded_pattern:W.findIn K (.ref OC_Shaded) "pattern"=some none)
  (on_Shaded_triangle:W.findIn K (.ref OC_Shaded) "triangle"=some none)
  (ot_Shaded_word:W.findIn K (.ref OC_Shaded) "word"=some (some (.ref f43)))
  (om_Shaded:W.makesIn K OC_Shaded=true) (ok_Shaded:W.keepIn K (.ref OC_Shaded)=true)
  (us_Thing:W.specialIn K (.ref OC_Thing) "__getattribute__"=some (some (.builtin "type.__getattribute__"))) (ur_Thing:W.readsIn K OC_Thing (.type "type")=true) (uf_Thing:W.findCls K (.ref OC_Thing) (.type "type") "__init__"=some (.val (.ref f6))) (uh_Thing:W.handedIn (.ref f6)=true)
  (z0:W.nsIn K mainGlobals "abs"=some none)
  (z1:W.nsIn K mainGlobals "all"=some none)
  (z2:W.nsIn K mainGlobals "bool"=some none)
  (z3:W.nsIn K mainGlobals "int"=some none)
  (z4:W.nsIn K mainGlobals "isinstance"=some none)
  (z5:W.nsIn K mainGlobals "len"=some none)
  (z6:W.nsIn K mainGlobals "list"=some none)
  (z7:W.nsIn K mainGlobals "max"=some none)
  (z8:W.nsIn K mainGlobals "range"=some none)
  (z9:W.nsIn K mainGlobals "reversed"=some none)
  (z10:W.nsIn K mainGlobals "str"=some none)
  (z11:W.nsIn K mainGlobals "tuple"=some none)
  (gc0:W.nsIn K mainGlobals "FIGURES"=some (some (.str "0123456789" tk0)))
  (gc1:W.nsIn K mainGlobals "MOST_FIGURES"=some (some (.int 30 tk1)))
  (gc2:W.nsIn K mainGlobals "MOST_VALUES"=some (some (.int 3 tk2)))
  (gta0:W.nsIn K mainGlobals "COUNTS"=some (some (.ref GA0))) (gtl0:K.lookup GA0=some ⟨.type "tuple", godt0,.seq #[.int 1 gtk0_0,.int 2 gtk0_1,.int 4 gtk0_2,.int 8 gtk0_3,.int 16 gtk0_4] gnn0,gsl0⟩)
  (cl0:NI K "Glass" C0)
  (cl1:NI K "Patterned" C1)
  (cl2:NI K "Plain" C2)
  (cl3:NI K "Shaded" C3)
  (cl4:NI K "Thing" C4)
  (xa0:W.nsIn K mainGlobals "BadPattern"=some (some (.ref X0))) (xb0:W.excIn K X0 ZgI "ValueError.__new__"=true)
  (xa1:W.nsIn K mainGlobals "BadThing"=some (some (.ref X1))) (xb1:W.excIn K X1 ZgI "ValueError.__new__"=true)
  (xa2:W.nsIn K mainGlobals "BadTriangle"=some (some (.ref X2))) (xb2:W.excIn K X2 ZgI "ValueError.__new__"=true)
  (of_Plain:W.findIn K (.ref OC_Plain) "__class__"=some (some (.builtin "object.__class__"))) (oq_Plain:W.mroIn K OC_Plain (.type "object")=some true)
  (of_Shaded:W.findIn K (.ref OC_Shaded) "__class__"=some (some (.builtin "object.__class__"))) (oq_Shaded:W.mroIn K OC_Shaded (.type "object")=some true)
  (of_Patterned:W.findIn K (.ref OC_Patterned) "__class__"=some (some (.builtin "object.__class__"))) (oq_Patterned:W.mroIn K OC_Patterned (.type "object")=some true)
  (of_Glass:W.findIn K (.ref OC_Glass) "__class__"=some (some (.builtin "object.__class__"))) (oq_Glass:W.mroIn K OC_Glass (.type "object")=some true)
  (oa:W.specialIn K (.builtin "object.__class__") "__get__"=some (some (.builtin "getset_descriptor.__get__"))) (ob:W.takesIn K (.builtin "object.__class__")=some true)
  (ox_Glass_Thing:W.kitOne K (.ref OC_Glass) (.ref C4)=some true)
  (ox_Glass_Shaded:W.kitOne K (.ref OC_Glass) (.ref C3)=some false)
  (ox_Glass_Plain:W.kitOne K (.ref OC_Glass) (.ref C2)=some false)
  (ox_Glass_Patterned:W.kitOne K (.ref OC_Glass) (.ref C1)=some false)
  (ox_Glass_Glass:W.kitOne K (.ref OC_Glass) (.ref C0)=some true)
  (ox_Patterned_Thing:W.kitOne K (.ref OC_Patterned) (.ref C4)=some true)
  (ox_Patterned_Shaded:W.kitOne K (.ref OC_Patterned) (.ref C3)=some false)
  (ox_Patterned_Plain:W.kitOne K (.ref OC_Patterned) (.ref C2)=some false)
  (ox_Patterned_Patterned:W.kitOne K (.ref OC_Patterned) (.ref C1)=some true)
  (ox_Patterned_Glass:W.kitOne K (.ref OC_Patterned) (.ref C0)=some false)
  (ox_Shaded_Thing:W.kitOne K (.ref OC_Shaded) (.ref C4)=some true)
  (ox_Shaded_Shaded:W.kitOne K (.ref OC_Shaded) (.ref C3)=some true)
  (ox_Shaded_Plain:W.kitOne K (.ref OC_Shaded) (.ref C2)=some false)
  (ox_Shaded_Patterned:W.kitOne K (.ref OC_Shaded) (.ref C1)=some false)
  (ox_Shaded_Glass:W.kitOne K (.ref OC_Shaded) (.ref C0)=some false)
  (ox_Plain_Thing:W.kitOne K (.ref OC_Plain) (.ref C4)=some true)
  (ox_Plain_Shaded:W.kitOne K (.ref OC_Plain) (.ref C3)=some false)
  (ox_Plain_Plain:W.kitOne K (.ref OC_Plain) (.ref C2)=some true)
  (ox_Plain_Patterned:W.kitOne K (.ref OC_Plain) (.ref C1)=some false)
  (ox_Plain_Glass:W.kitOne K (.ref OC_Plain) (.ref C0)=some false)
  : ∃fd:FuncData,(∀(s:Shared) (v:Value),BindsTo s fd ⟨[v],[]⟩ [("_law_script", v)])∧∀base:Heap,K.In base→base.Ns mainGlobals mg→FnOk l.prog w K mg base (CXR l.prog w) 12 fa fd ["_law_script"] (Zls K):=by
 have e:=hfa.symm.trans (W.mg_of X G a51)
 cases e
 have T:Txt K mg:=⟨W.mg_none_of X G z0,W.mg_none_of X G z1,W.mg_none_of X G z2,W.mg_none_of X G z3,W.mg_none_of X G z4,W.mg_none_of X G z5,W.mg_none_of X G z6,W.mg_none_of X G z7,W.mg_none_of X G z8,W.mg_none_of X G z9,W.mg_none_of X G z10,W.mg_none_of X G z11,⟨_,W.mg_of X G gc0⟩,⟨_,W.mg_of X G gc1⟩,⟨_,W.mg_of X G gc2⟩,⟨_,_,_,_,W.mg_of X G gta0,gtl0,rfl,rfl,show (5:Nat)≤sizeLine by decide,(.cons ⟨_,rfl⟩ (.cons ⟨_,rfl⟩ (.cons ⟨_,rfl⟩ (.cons ⟨_,rfl⟩ (.cons ⟨_,rfl⟩ .nil)))))⟩,⟨_,W.mg_of X G cl0⟩,⟨_,W.mg_of X G cl1⟩,⟨_,W.mg_of X G cl2⟩,⟨_,W.mg_of X G cl3⟩,⟨_,W.mg_of X G cl4⟩,⟨_,W.mg_of X G xa0,xb0⟩,⟨_,W.mg_of X G xa1,xb1⟩,⟨_,W.mg_of X G xa2,xb2⟩,(.cons (W.mg_of X G ob_Plain) (W.mg_of X G cl0) ⟨og_Plain,oh_Plain,oo_Plain,os_Plain⟩ of_Plain oa ob oq_Plain ox_Plain_Glass (.cons (W.mg_of X G ob_Plain) (W.mg_of X G cl1) ⟨og_Plain,oh_Plain,oo_Plain,os_Plain⟩ of_Plain oa ob oq_Plain ox_Plain_Patterned (.cons (W.mg_of X G ob_Plain) (W.mg_of X G cl2) ⟨og_Plain,oh_Plain,oo_Plain,os_Plain⟩ of_Plain oa ob oq_Plain ox_Plain_Plain (.cons (W.mg_of X G ob_Plain) (W.mg_of X G cl3) ⟨og_Plain,oh_Plain,oo_Plain,os_Plain⟩ of_Plain oa ob oq_Plain ox_Plain_Shaded (.cons (W.mg_of X G ob_Plain) (W.mg_of X G cl4) ⟨og_Plain,oh_Plain,oo_Plain,os_Plain⟩ of_Plain oa ob oq_Plain ox_Plain_Thing (.cons (W.mg_of X G ob_Shaded) (W.mg_of X G cl0) ⟨og_Shaded,oh_Shaded,oo_Shaded,os_Shaded⟩ of_Shaded oa ob oq_Shaded ox_Shaded_Glass (.cons (W.mg_of X G ob_Shaded) (W.mg_of X G cl1) ⟨og_Shaded,oh_Shaded,oo_Shaded,os_Shaded⟩ of_Shaded oa ob oq_Shaded ox_Shaded_Patterned (.cons (W.mg_of X G ob_Shaded) (W.mg_of X G cl2) ⟨og_Shaded,oh_Shaded,oo_Shaded,os_Shaded⟩ of_Shaded oa ob oq_Shaded ox_Shaded_Plain (.cons (W.mg_of X G ob_Shaded) (W.mg_of X G cl3) ⟨og_Shaded,oh_Shaded,oo_Shaded,os_Shaded⟩ of_Shaded oa ob oq_Shaded ox_Shaded_Shaded (.cons (W.mg_of X G ob_Shaded) (W.mg_of X G cl4) ⟨og_Shaded,oh_Shaded,oo_Shaded,os_Shaded⟩ of_Shaded oa ob oq_Shaded ox_Shaded_Thing (.cons (W.mg_of X G ob_Patterned) (W.mg_of X G cl0) ⟨og_Patterned,oh_Patterned,oo_Patterned,os_Patterned⟩ of_Patterned oa ob oq_Patterned ox_Patterned_Glass (.cons (W.mg_of X G ob_Patterned) (W.mg_of X G cl1) ⟨og_Patterned,oh_Patterned,oo_Patterned,os_Patterned⟩ of_Patterned oa ob oq_Patterned ox_Patterned_Patterned (.cons (W.mg_of X G ob_Patterned) (W.mg_of X G cl2) ⟨og_Patterned,oh_Patterned,oo_Patterned,os_Patterned⟩ of_Patterned oa ob oq_Patterned ox_Patterned_Plain (.cons (W.mg_of X G ob_Patterned) (W.mg_of X G cl3) ⟨og_Patterned,oh_Patterned,oo_Patterned,os_Patterned⟩ of_Patterned oa ob oq_Patterned ox_Patterned_Shaded (.cons (W.mg_of X G ob_Patterned) (W.mg_of X G cl4) ⟨og_Patterned,oh_Patterned,oo_Patterned,os_Patterned⟩ of_Patterned oa ob oq_Patterned ox_Patterned_Thing (.cons (W.mg_of X G ob_Glass) (W.mg_of X G cl0) ⟨og_Glass,oh_Glass,oo_Glass,os_Glass⟩ of_Glass oa ob oq_Glass ox_Glass_Glass (.cons (W.mg_of X G ob_Glass) (W.mg_of X G cl1) ⟨og_Glass,oh_Glass,oo_Glass,os_Glass⟩ of_Glass oa ob oq_Glass ox_Glass_Patterned (.cons (W.mg_of X G ob_Glass) (W.mg_of X G cl2) ⟨og_Glass,oh_Glass,oo_Glass,os_Glass⟩ of_Glass oa ob oq_Glass ox_Glass_Plain (.cons (W.mg_of X G ob_Glass) (W.mg_of X G cl3) ⟨og_Glass,oh_Glass,oo_Glass,os_Glass⟩ of_Glass oa ob oq_Glass ox_Glass_Shaded (.cons (W.mg_of X G ob_Glass) (W.mg_of X G cl4) ⟨og_Glass,oh_Glass,oo_Glass,os_Glass⟩ of_Glass oa ob oq_Glass ox_Glass_Thing .nil)))))))))))))))))))),(.cons (fun C hC=>by cases (W.mg_of X G ob_Plain).symm.trans hC;exact ⟨⟨og_Plain,oh_Plain,oo_Plain,os_Plain⟩,on_Plain_colour⟩) (.cons (fun C hC=>by cases (W.mg_of X G ob_Shaded).symm.trans hC;exact ⟨⟨og_Shaded,oh_Shaded,oo_Shaded,os_Shaded⟩,on_Shaded_colour⟩) (.cons (fun C hC=>by cases (W.mg_of X G ob_Patterned).symm.trans hC;exact ⟨⟨og_Patterned,oh_Patterned,oo_Patterned,os_Patterned⟩,on_Patterned_colour⟩) (.cons (fun C hC=>by cases (W.mg_of X G ob_Glass).symm.trans hC;exact ⟨⟨og_Glass,oh_Glass,oo_Glass,os_Glass⟩,on_Glass_colour⟩) .nil)))),(.cons (fun C hC=>by cases (W.mg_of X G ob_Plain).symm.trans hC;exact ⟨⟨og_Plain,oh_Plain,oo_Plain,os_Plain⟩,on_Plain_part⟩) (.cons (fun C hC=>by cases (W.mg_of X G ob_Shaded).symm.trans hC;exact ⟨⟨og_Shaded,oh_Shaded,oo_Shaded,os_Shaded⟩,on_Shaded_part⟩) (.cons (fun C hC=>by cases (W.mg_of X G ob_Patterned).symm.trans hC;exact ⟨⟨og_Patterned,oh_Patterned,oo_Patterned,os_Patterned⟩,on_Patterned_part⟩) (.cons (fun C hC=>by cases (W.mg_of X G ob_Glass).symm.trans hC;exact ⟨⟨og_Glass,oh_Glass,oo_Glass,os_Glass⟩,on_Glass_part⟩) .nil)))),(.cons (fun C hC=>by cases (W.mg_of X G ob_Plain).symm.trans hC;exact ⟨⟨og_Plain,oh_Plain,oo_Plain,os_Plain⟩,on_Plain_pattern⟩) (.cons (fun C hC=>by cases (W.mg_of X G ob_Shaded).symm.trans hC;exact ⟨⟨og_Shaded,oh_Shaded,oo_Shaded,os_Shaded⟩,on_Shaded_pattern⟩) (.cons (fun C hC=>by cases (W.mg_of X G ob_Patterned).symm.trans hC;exact ⟨⟨og_Patterned,oh_Patterned,oo_Patterned,os_Patterned⟩,on_Patterned_pattern⟩) (.cons (fun C hC=>by cases (W.mg_of X G ob_Glass).symm.trans hC;exact ⟨⟨og_Glass,oh_Glass,oo_Glass,os_Glass⟩,on_Glass_pattern⟩) .nil)))),(.cons (fun C hC=>by cases (W.mg_of X G ob_Plain).symm.trans hC;exact ⟨⟨og_Plain,oh_Plain,oo_Plain,os_Plain⟩,on_Plain_triangle⟩) (.cons (fun C hC=>by cases (W.mg_of X G ob_Shaded).symm.trans hC;exact ⟨⟨og_Shaded,oh_Shaded,oo_Shaded,os_Shaded⟩,on_Shaded_triangle⟩) (.cons (fun C hC=>by cases (W.mg_of X G ob_Patterned).symm.trans hC;exact ⟨⟨og_Patterned,oh_Patterned,oo_Patterned,os_Patterned⟩,on_Patterned_triangle⟩) (.cons (fun C hC=>by cases (W.mg_of X G ob_Glass).symm.trans hC;exact ⟨⟨og_Glass,oh_Glass,oo_Glass,os_Glass⟩,on_Glass_triangle⟩) .nil))))⟩
 obtain ⟨_,F6⟩:=d6
 have B6:=F6.binds (ps:=["self", "triangle"]) (by walk_at "b2")
 obtain ⟨_,F11⟩:=d11
 have B11:=F11.binds (ps:=["self", "triangle", "colour", "part"]) (by walk_at "b4")
 obtain ⟨_,F15⟩:=d15
 have B15:=F15.binds (ps:=["self", "triangle", "pattern"]) (by walk_at "b3")
 obtain ⟨_,F16⟩:=d16
 have B16:=F16.binds (ps:=["self", "triangle", "colour"]) (by walk_at "b3")
 obtain ⟨_,F17⟩:=d17
 have B17:=F17.binds (ps:=["self", "triangle"]) (by walk_at "b2")
 obtain ⟨_,F40⟩:=d40
 have B40:=F40.binds (ps:=["self"]) (by walk_at "b1")
 obtain ⟨_,F41⟩:=d41
 have B41:=F41.binds (ps:=["self"]) (by walk_at "b1")
 obtain ⟨_,F42⟩:=d42
 have B42:=F42.binds (ps:=["self"]) (by walk_at "b1")
 obtain ⟨_,F43⟩:=d43
 have B43:=F43.binds (ps:=["self"]) (by walk_at "b1")
 have F51:=Zc0 (st:=Zgq) l51 c51 k51
 have D51:=dmk F51 (F51.binds (ps:=["_law_script"]) (by walk_at "b1")) (W.mg_of X G a51)
 refine ⟨W.fnOf "law" "law" (ZdU Zgq) (ZbS Zgq) (Zaf Zgq) .none kV51 dc51 pm51 an51 cd51 ct51,fun s v=>.of_eq rfl,fun base _ _=>?_⟩
 have C_check_before_eye:=ZdT (P:=l.prog) (w:=w) (base:=base) T D1
 have C_is_whole:=Zh0 (P:=l.prog) (w:=w) (base:=base) T D2
 have C_are_values:=ZgA (P:=l.prog) (w:=w) (base:=base) T D3 C_is_whole
 have C_is_corner:=Zhx (P:=l.prog) (w:=w) (base:=base) T D4 C_is_whole C_are_values
 have C_check_triangle:=Zez (P:=l.prog) (w:=w) (base:=base) T D5 C_is_corner
 have C_Thing____init__:=Zk0 (P:=l.prog) (w:=w) (base:=base) T F6 C_check_before_eye C_check_triangle
 have CS_Thing:ZiU l.prog w K mg base 5 "Thing" "__init__" 1 objs ZbR:=⟨_,_,_,_,W.mg_of X G ob_Thing,⟨us_Thing,⟨_,ur_Thing,uf_Thing⟩,uh_Thing,F6.kp⟩,C_Thing____init__,B6⟩
 have C_greatest_divisor:=ZdL (P:=l.prog) (w:=w) (base:=base) T D7
 have C_is_fraction:=ZfM (P:=l.prog) (w:=w) (base:=base) T D8 C_is_whole C_greatest_divisor
 have C_check_colour:=Zfu (P:=l.prog) (w:=w) (base:=base) T D9 C_is_fraction
 have C_check_part:=ZgN (P:=l.prog) (w:=w) (base:=base) T D10 C_is_fraction
 have C_Glass____init__:=Zk1 (P:=l.prog) (w:=w) (base:=base) T F11 CS_Thing C_check_colour C_check_part
 have CI_Glass:CalJ l.prog w K mg base 7 "Glass" 3 objs Zdl:=⟨_,_,_,_,W.mg_of X G ob_Glass,⟨om_Glass,a11,q11,ok_Glass⟩,C_Glass____init__,B11,rfl⟩
 have C_check_pattern:=ZeT (P:=l.prog) (w:=w) (base:=base) T D12 C_is_fraction
 have C_check_values:=ZfB (P:=l.prog) (w:=w) (base:=base) T D13
 have C_copied:=ZjF (P:=l.prog) (w:=w) (base:=base) T D14
 have C_Patterned____init__:=Zg3 (P:=l.prog) (w:=w) (base:=base) T F15 CS_Thing C_check_pattern C_check_values C_copied
 have CI_Patterned:CalJ l.prog w K mg base 7 "Patterned" 2 objs Za7:=⟨_,_,_,_,W.mg_of X G ob_Patterned,⟨om_Patterned,a15,q15,ok_Patterned⟩,C_Patterned____init__,B15,rfl⟩
 have C_Plain____init__:=Zlh (P:=l.prog) (w:=w) (base:=base) T F16 CS_Thing C_check_colour
 have CI_Plain:CalJ l.prog w K mg base 7 "Plain" 2 objs Zdt:=⟨_,_,_,_,W.mg_of X G ob_Plain,⟨om_Plain,a16,q16,ok_Plain⟩,C_Plain____init__,B16,rfl⟩
 have C_Shaded____init__:=Zki (P:=l.prog) (w:=w) (base:=base) T F17 CS_Thing C_check_values
 have CI_Shaded:CalJ l.prog w K mg base 7 "Shaded" 1 objs Zcj:=⟨_,_,_,_,W.mg_of X G ob_Shaded,⟨om_Shaded,a17,q17,ok_Shaded⟩,C_Shaded____init__,B17,rfl⟩
 have C__law_mixed:=Zgz (P:=l.prog) (w:=w) (base:=base) T D18
 have C__law_number:=ZfI (P:=l.prog) (w:=w) (base:=base) T D19 C__law_mixed
 have C__law_corner:=ZfV (P:=l.prog) (w:=w) (base:=base) T D20 C__law_number
 have C__law_divisor:=Zft (P:=l.prog) (w:=w) (base:=base) T D21
 have C__law_far:=Zic (P:=l.prog) (w:=w) (base:=base) T D22 C__law_mixed
 have C__law_fraction:=ZeP (P:=l.prog) (w:=w) (base:=base) T D23 C__law_mixed C__law_divisor C__law_far
 have C__law_part:=Zhd (P:=l.prog) (w:=w) (base:=base) T D24 C__law_divisor C__law_fraction
 have C__law_pattern:=Zfk (P:=l.prog) (w:=w) (base:=base) T D25 C__law_mixed C__law_fraction
 have C__law_kinds:=ZgR (P:=l.prog) (w:=w) (base:=base) T D26
 have C__law_alike:=Zgv (P:=l.prog) (w:=w) (base:=base) T D27 C__law_kinds
 have C_check_text:=ZgT (P:=l.prog) (w:=w) (base:=base) T D28
 have C_groups_of:=Zhi (P:=l.prog) (w:=w) (base:=base) T D29
 have C_are_figures:=ZfN (P:=l.prog) (w:=w) (base:=base) T D30
 have C_read_number:=ZfU (P:=l.prog) (w:=w) (base:=base) T D31 C_are_figures
 have C_read_corner:=ZfL (P:=l.prog) (w:=w) (base:=base) T D32 C_read_number
 have C_read_fraction:=ZeU (P:=l.prog) (w:=w) (base:=base) T D33 C_is_fraction C_read_number
 have C_read_pattern:=Ze4 (P:=l.prog) (w:=w) (base:=base) T D34 C_read_fraction
 have C_thing_of:=Zib (P:=l.prog) (w:=w) (base:=base) T D35 CI_Glass CI_Patterned CI_Plain CI_Shaded C_read_fraction C_read_pattern
 have C_read_thing:=ZgE (P:=l.prog) (w:=w) (base:=base) T D36 C_check_text C_groups_of C_read_corner C_thing_of
 have C_number_word:=ZfT (P:=l.prog) (w:=w) (base:=base) T D37
 have C_numbers_of:=Zg0 (P:=l.prog) (w:=w) (base:=base) T D38
 have C_corner_text:=ZfX (P:=l.prog) (w:=w) (base:=base) T D39 C_number_word C_numbers_of
 have C_Glass__word:=ZfK (P:=l.prog) (w:=w) (base:=base) T F40
 have C_Patterned__word:=Zek (P:=l.prog) (w:=w) (base:=base) T F41
 have C_Plain__word:=ZfW (P:=l.prog) (w:=w) (base:=base) T F42
 have C_Shaded__word:=Ze2 (P:=l.prog) (w:=w) (base:=base) T F43
 have CM_word:Zel l.prog w K mg base 1 0 "word" Zgj:=(.cons (fun C hC=>by cases (W.mg_of X G ob_Plain).symm.trans hC;exact ⟨⟨og_Plain,oh_Plain,oo_Plain,os_Plain⟩,_,_,_,⟨ot_Plain_word,q42,F42.kp⟩,C_Plain__word.mono (by decide),B42,rfl⟩) (.cons (fun C hC=>by cases (W.mg_of X G ob_Shaded).symm.trans hC;exact ⟨⟨og_Shaded,oh_Shaded,oo_Shaded,os_Shaded⟩,_,_,_,⟨ot_Shaded_word,q43,F43.kp⟩,C_Shaded__word.mono (by decide),B43,rfl⟩) (.cons (fun C hC=>by cases (W.mg_of X G ob_Patterned).symm.trans hC;exact ⟨⟨og_Patterned,oh_Patterned,oo_Patterned,os_Patterned⟩,_,_,_,⟨ot_Patterned_word,q41,F41.kp⟩,C_Patterned__word.mono (by decide),B41,rfl⟩) (.cons (fun C hC=>by cases (W.mg_of X G ob_Glass).symm.trans hC;exact ⟨⟨og_Glass,oh_Glass,oo_Glass,os_Glass⟩,_,_,_,⟨ot_Glass_word,q40,F40.kp⟩,C_Glass__word.mono (by decide),B40,rfl⟩) .nil))))
 have C_fraction_word:=ZeR (P:=l.prog) (w:=w) (base:=base) T D44 C_number_word
 have C_pattern_word:=Ze3 (P:=l.prog) (w:=w) (base:=base) T D45 C_fraction_word
 have C_head_words:=Zgh (P:=l.prog) (w:=w) (base:=base) T D46 CM_word C_fraction_word C_pattern_word
 have C_thing_text:=Zgl (P:=l.prog) (w:=w) (base:=base) T D47 C_corner_text C_head_words
 have C__law_right:=Zgp (P:=l.prog) (w:=w) (base:=base) T D48 C__law_alike C_read_thing C_thing_text
 have C__law_row:=ZhZ (P:=l.prog) (w:=w) (base:=base) T D49
 have C__law_word:=ZhJ (P:=l.prog) (w:=w) (base:=base) T D50
 exact (ZpZ (P:=l.prog) (w:=w) (base:=base) T F51 CI_Glass CI_Patterned CI_Plain CI_Shaded C__law_mixed C__law_corner C__law_fraction C__law_part C__law_pattern C_fraction_word C__law_right C__law_row C__law_word).imp (Zqc Zlv)
theorem walk{l:W.OpenLaw}{q:Program}{loose:List Str}{XP:(Str→Option Value)→Heap→Prop}{YP:World→Heap→Prop}{d:DefRec}{K:Params→W.Frag}(hn:l.most=some 63)(hdf:d.params.defaults=[])
  (hY:∀(w:World) (h:Heap),YP w h→(K w.params).In h)
  (F:∀(w:World) (mg:Str→Option Value) (fa:Addr) (h:Heap),(K w.params).In h→h.Ns mainGlobals mg→mg d.name=some (.ref fa) →
   ∃fd:FuncData,(∀(s:Shared) (u:Value),BindsTo s fd ⟨[u],[]⟩ [("_law_script", u)])∧∀base:Heap,(K w.params).In base→base.Ns mainGlobals mg→FnOk l.prog w (K w.params) mg base (CXR l.prog w) 12 fa fd ["_law_script"] (Zls (K w.params))) :
  W.WalkO q loose XP YP l.row.toRowW d [] (fun f vs=>PySem.call f vs) :=
 L2.Znd (n:=63) (k:=12) (x := "_law_script") (CX:=fun w=>CXR l.prog w) (sp:=fun w=>Zls (K w.params)) hn (by decide) hdf ⟨rfl,by decide,by decide⟩ hY F (fun _ _ a ns hl _ hS=>⟨a,ns,rfl,hS,hl,fun _=>rfl⟩) fun _ _ _ _ _ z=>ZoI z
end My
set_option hygiene false in
local macro_rules | `(tactic| walk_at "df")=>`(tactic| (refine' ⟨_,L2.Zc0 ?l ?c ?k⟩;(case l=>k_is);(case c=>k_is);(case k=>k_is)))
set_option hygiene false in
local macro_rules | `(tactic| walk_at "dd1")=>`(tactic| (refine' ⟨_,_,L2.Zc0 ?l ?c ?k,L2.Fun.binds (L2.Zc0 ?l ?c ?k) (fun _ _ _ _ _ _=>My.ln1 fun _=>rfl),W.mg_of KX G ?a⟩;(case a=>k_is);(case l=>k_is);(case c=>k_is);(case k=>k_is)))
set_option hygiene false in
local macro_rules | `(tactic| walk_at "dd2")=>`(tactic| (refine' ⟨_,_,L2.Zc0 ?l ?c ?k,L2.Fun.binds (L2.Zc0 ?l ?c ?k) (fun _ _ _ _ _ _=>My.ln2 fun _ _=>rfl),W.mg_of KX G ?a⟩;(case a=>k_is);(case l=>k_is);(case c=>k_is);(case k=>k_is)))
set_option hygiene false in
local macro_rules | `(tactic| walk_at "dd3")=>`(tactic| (refine' ⟨_,_,L2.Zc0 ?l ?c ?k,L2.Fun.binds (L2.Zc0 ?l ?c ?k) (fun _ _ _ _ _ _=>My.ln3 fun _ _ _=>rfl),W.mg_of KX G ?a⟩;(case a=>k_is);(case l=>k_is);(case c=>k_is);(case k=>k_is)))
set_option hygiene false in
local macro_rules | `(tactic| walk_at "dd6")=>`(tactic| (refine' ⟨_,_,L2.Zc0 ?l ?c ?k,L2.Fun.binds (L2.Zc0 ?l ?c ?k) (fun _ _ _ _ _ _=>My.ln6 fun _ _ _ _ _ _=>rfl),W.mg_of KX G ?a⟩;(case a=>k_is);(case l=>k_is);(case c=>k_is);(case k=>k_is)))
set_option hygiene false in
local macro_rules | `(tactic| walk_at "dd7")=>`(tactic| (refine' ⟨_,_,L2.Zc0 ?l ?c ?k,L2.Fun.binds (L2.Zc0 ?l ?c ?k) (fun _ _ _ _ _ _=>My.ln7 fun _ _ _ _ _ _ _=>rfl),W.mg_of KX G ?a⟩;(case a=>k_is);(case l=>k_is);(case c=>k_is);(case k=>k_is)))
local macro_rules | `(tactic| walk_at "ni")=>`(tactic| (delta My.NI;k_is))
open PySem PySem.W PyProof.Rows
set_option maxRecDepth 100000 in
set_option maxHeartbeats 0 in
theorem PySem.Challenge.cw_sampleyard_k81_things_written_holds : PySem.Challenge.rw_sampleyard_k81_things_written.Holds := by
 w_on;refine holds_law Hd.said fun said=>?_
 refine holds_open (r:=PySem.Challenge.rw_sampleyard_k81_things_written.row) (q:=Hd.view) (loose:=[]) (Xt:=(fun s=>xlAt Hd.view [] s&&recOk (RowW.records PySem.Challenge.rw_sampleyard_k81_things_written.row.toRowW) s)) (XP:=XL Hd.view []) (Yf:=Hook.obs (kHook Hd.heap Hd.addrs Hd.Zdx)) (Ya:=Hook.val (kHook Hd.heap Hd.addrs Hd.Zdx)) (YP:=Hook.says (kHook Hd.heap Hd.addrs Hd.Zdx)) (N:=Hd.most) Hd.left (Hook.of (kHook Hd.heap Hd.addrs Hd.Zdx)) (Hook.keeps (kHook Hd.heap Hd.addrs Hd.Zdx)) (fun s e=>xl_of s (Bool.and_eq_true_iff.mp e).1) XL.keeps (by rfl) (by rfl) (by rfl) (fun s e=>recFacts_of (Bool.and_eq_true_iff.mp e).2) (by rfl) (by assumption) (by decide +kernel) ⟨rfl,rfl,rfl,rfl,rfl,by decide +kernel⟩ ?hw ?hc
 case hw=>w_witness2
 k_fill
 refine My.walk (l:=PySem.Challenge.rw_sampleyard_k81_things_written) rfl rfl (fun w h Y=>W.kIn_of Y) ?F
 case F =>
  intro w mg fa h KX G hmg
  refine' My.Zoo KX G hmg ?ob_Glass ?ob_Patterned ?ob_Plain ?ob_Shaded ?ob_Thing ?D1 ?D2 ?D3 ?D4 ?D5 ?a6 ?d6 ?q6 ?D7 ?D8 ?D9 ?D10 ?a11 ?d11 ?q11 ?D12 ?D13 ?D14 ?a15 ?d15 ?q15 ?a16 ?d16 ?q16 ?a17 ?d17 ?q17 ?D18 ?D19 ?D20 ?D21 ?D22 ?D23 ?D24 ?D25 ?D26 ?D27 ?D28 ?D29 ?D30 ?D31 ?D32 ?D33 ?D34 ?D35 ?D36 ?D37 ?D38 ?D39 ?a40 ?d40 ?q40 ?a41 ?d41 ?q41 ?a42 ?d42 ?q42 ?a43 ?d43 ?q43 ?D44 ?D45 ?D46 ?D47 ?D48 ?D49 ?D50 ?a51 ?l51 ?c51 ?k51 ?og_Glass ?oh_Glass ?oo_Glass ?os_Glass ?on_Glass_colour ?on_Glass_part ?on_Glass_pattern ?on_Glass_triangle ?ot_Glass_word ?om_Glass ?ok_Glass ?og_Patterned ?oh_Patterned ?oo_Patterned ?os_Patterned ?on_Patterned_colour ?on_Patterned_part ?on_Patterned_pattern ?on_Patterned_triangle ?ot_Patterned_word ?om_Patterned ?ok_Patterned ?og_Plain ?oh_Plain ?oo_Plain ?os_Plain ?on_Plain_colour ?on_Plain_part ?on_Plain_pattern ?on_Plain_triangle ?ot_Plain_word ?om_Plain ?ok_Plain ?og_Shaded ?oh_Shaded ?oo_Shaded ?os_Shaded ?on_Shaded_colour ?on_Shaded_part ?on_Shaded_pattern ?on_Shaded_triangle ?ot_Shaded_word ?om_Shaded ?ok_Shaded ?us_Thing ?ur_Thing ?uf_Thing ?uh_Thing ?z0 ?z1 ?z2 ?z3 ?z4 ?z5 ?z6 ?z7 ?z8 ?z9 ?z10 ?z11 ?gc0 ?gc1 ?gc2 ?gta0 ?gtl0 ?cl0 ?cl1 ?cl2 ?cl3 ?cl4 ?xa0 ?xb0 ?xa1 ?xb1 ?xa2 ?xb2 ?of_Plain ?oq_Plain ?of_Shaded ?oq_Shaded ?of_Patterned ?oq_Patterned ?of_Glass ?oq_Glass ?oa ?ob ?ox_Glass_Thing ?ox_Glass_Shaded ?ox_Glass_Plain ?ox_Glass_Patterned ?ox_Glass_Glass ?ox_Patterned_Thing ?ox_Patterned_Shaded ?ox_Patterned_Plain ?ox_Patterned_Patterned ?ox_Patterned_Glass ?ox_Shaded_Thing ?ox_Shaded_Shaded ?ox_Shaded_Plain ?ox_Shaded_Patterned ?ox_Shaded_Glass ?ox_Plain_Thing ?ox_Plain_Shaded ?ox_Plain_Plain ?ox_Plain_Patterned ?ox_Plain_Glass
  (case ob_Glass=>walk_at "ni")
  (case ob_Patterned=>walk_at "ni")
  (case ob_Plain=>walk_at "ni")
  (case ob_Shaded=>walk_at "ni")
  (case ob_Thing=>walk_at "ni")
  (case D1=>walk_at "dd1")
  (case D2=>walk_at "dd1")
  (case D3=>walk_at "dd1")
  (case D4=>walk_at "dd1")
  (case D5=>walk_at "dd1")
  case a6=>k_is
  (case d6=>walk_at "df")
  case q6=>k_is
  (case D7=>walk_at "dd1")
  (case D8=>walk_at "dd1")
  (case D9=>walk_at "dd1")
  (case D10=>walk_at "dd1")
  case a11=>k_is
  (case d11=>walk_at "df")
  case q11=>k_is
  (case D12=>walk_at "dd1")
  (case D13=>walk_at "dd2")
  (case D14=>walk_at "dd1")
  case a15=>k_is
  (case d15=>walk_at "df")
  case q15 | a16=>k_is
  (case d16=>walk_at "df")
  case q16 | a17=>k_is
  (case d17=>walk_at "df")
  case q17=>k_is
  (case D18=>walk_at "dd2")
  (case D19=>walk_at "dd2")
  (case D20=>walk_at "dd3")
  (case D21=>walk_at "dd2")
  (case D22=>walk_at "dd3")
  (case D23=>walk_at "dd2")
  (case D24=>walk_at "dd2")
  (case D25=>walk_at "dd1")
  (case D26=>walk_at "dd1")
  (case D27=>walk_at "dd6")
  (case D28=>walk_at "dd1")
  (case D29=>walk_at "dd1")
  (case D30=>walk_at "dd1")
  (case D31=>walk_at "dd1")
  (case D32=>walk_at "dd1")
  (case D33=>walk_at "dd1")
  (case D34=>walk_at "dd1")
  (case D35=>walk_at "dd2")
  (case D36=>walk_at "dd1")
  (case D37=>walk_at "dd1")
  (case D38=>walk_at "dd1")
  (case D39=>walk_at "dd1")
  case a40=>k_is
  (case d40=>walk_at "df")
  case q40 | a41=>k_is
  (case d41=>walk_at "df")
  case q41 | a42=>k_is
  (case d42=>walk_at "df")
  case q42 | a43=>k_is
  (case d43=>walk_at "df")
  case q43=>k_is
  (case D44=>walk_at "dd1")
  (case D45=>walk_at "dd1")
  (case D46=>walk_at "dd1")
  (case D47=>walk_at "dd1")
  (case D48=>walk_at "dd7")
  (case D49=>walk_at "dd2")
  (case D50=>walk_at "dd1")
  case a51 | l51 | c51 | k51 | og_Glass | oh_Glass | oo_Glass | os_Glass | on_Glass_colour | on_Glass_part | on_Glass_pattern | on_Glass_triangle | ot_Glass_word | om_Glass | ok_Glass | og_Patterned | oh_Patterned | oo_Patterned | os_Patterned | on_Patterned_colour | on_Patterned_part | on_Patterned_pattern | on_Patterned_triangle | ot_Patterned_word | om_Patterned=>k_is
  case ok_Patterned | og_Plain | oh_Plain | oo_Plain | os_Plain | on_Plain_colour | on_Plain_part | on_Plain_pattern | on_Plain_triangle | ot_Plain_word | om_Plain | ok_Plain | og_Shaded | oh_Shaded | oo_Shaded | os_Shaded | on_Shaded_colour | on_Shaded_part | on_Shaded_pattern | on_Shaded_triangle | ot_Shaded_word | om_Shaded | ok_Shaded | us_Thing | ur_Thing=>k_is
  case uf_Thing=>k_is
  case uh_Thing=>rfl
  case z0 | z1 | z2 | z3 | z4 | z5 | z6 | z7 | z8 | z9 | z10 | z11 | gc0 | gc1 | gc2 | gta0 | gtl0=>k_is
  (case cl0=>walk_at "ni")
  (case cl1=>walk_at "ni")
  (case cl2=>walk_at "ni")
  (case cl3=>walk_at "ni")
  (case cl4=>walk_at "ni")
  case xa0=>k_is
  case xb0=>k_exc
  case xa1=>k_is
  case xb1=>k_exc
  case xa2=>k_is
  case xb2=>k_exc
  case of_Plain | oq_Plain | of_Shaded | oq_Shaded | of_Patterned | oq_Patterned | of_Glass | oq_Glass | oa | ob=>k_is
  case ox_Glass_Thing | ox_Glass_Shaded | ox_Glass_Plain | ox_Glass_Patterned | ox_Glass_Glass | ox_Patterned_Thing | ox_Patterned_Shaded | ox_Patterned_Plain | ox_Patterned_Patterned | ox_Patterned_Glass | ox_Shaded_Thing | ox_Shaded_Shaded | ox_Shaded_Plain | ox_Shaded_Patterned | ox_Shaded_Glass | ox_Plain_Thing | ox_Plain_Shaded | ox_Plain_Plain | ox_Plain_Patterned | ox_Plain_Glass=>kit_is
