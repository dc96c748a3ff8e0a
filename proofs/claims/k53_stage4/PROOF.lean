import PyProof.Rows.All
import Wide.All
import OpenK.AllK
import Wide.FinOn
import Lean
import PyProof.EqAt
import PyProof.EqKinds
import PyProof.TupleCall
import PyProof.P3Eq
import PyProof.NeData
import PySem.Challenge.RW_sampleyard_k53_seen_through
set_option Elab.async false
set_option linter.all false
set_option maxRecDepth 100000
noncomputable section
namespace L2
open PySem
def inClass (s:Stmt) (j:Nat):Stmt:=match s with
 | .ClassDef _ _ _ body _ _ _ _ _ _ _=>body.getD j (.Pass ⟨0,0,0,0⟩)
 | _=>.Pass ⟨0,0,0,0⟩
def defArgs (s:Stmt):Arguments:=match s with
 | .FunctionDef _ a _ _ _ _ _ _ _ _=>a
 | _=>{ posonlyargs:=[],args:=[],vararg:=none,kwonlyargs:=[],kw_defaults:=[],kwarg:=none,defaults:=[] }
def defBody (s:Stmt):List Stmt:=match s with
 | .FunctionDef _ _ b _ _ _ _ _ _ _=>b
 | _=>[]
def defScope (s:Stmt):Scope:=match s with
 | .FunctionDef _ _ _ _ _ _ sc _ _ _=>sc
 | _=>{ kind:=.function,names:=[],isGenerator:=false,isCoroutine:=false }
end L2
namespace Hd
open PySem PySem.W L2
abbrev top (i:Nat):Stmt:=PySem.Challenge.pw_sampleyard_k53_seen_through.main.body.getD i (.Pass ⟨0,0,0,0⟩)
def view:Program:={ PySem.Challenge.pw_sampleyard_k53_seen_through with main:={ PySem.Challenge.pw_sampleyard_k53_seen_through.main with body:=[top 0,top 2,top 3,top 4,top 5,top 7,top 8,top 9,top 11,top 12,top 13,top 14,top 15,top 16,top 17,top 19,top 20,top 21,top 22,top 23,top 24,top 26,top 27,top 28,top 30,top 31,top 32,top 33,top 34,top 35,top 37,top 38,top 39,top 40,top 42,top 43,top 44,top 45,top 47,top 48,top 49,top 50,top 51,top 52,top 53,top 54,top 56,top 57,top 58,top 59,top 60,top 61,top 62,top 63,top 64,top 65,top 66,top 67,top 68] } }
abbrev S (x:String):Str:=Str.ofString x
abbrev st (x:String) (t:Nat):Value:=.str (Str.ofString x) t
abbrev en (P:Params) (x:String) (t:Nat) (v:Value):DictEntry:=⟨PyData.keyHash P (Str.ofString x),.str (Str.ofString x) t,v⟩
abbrev fd (s:Stmt) (n q:String) (an:Option Addr) (d k c e m t:Value):Data:=.func { name:=Str.ofString n,qualname:=Str.ofString q,params:=defArgs s,body:=.stmts (defBody s),scope:=defScope s,globals:=mainGlobals,closure:=[],defaults:=d,kwdefaults:=k,doc:=e,pyModule:=m,annotations:=an,code:=c,closureTuple:=t,builtins:=builtinsNs }
abbrev T (xs:Array Value):Obj:=⟨.type "tuple", none,.seq xs 0,#[]⟩
abbrev F (s:Stmt) (n q:String) (an:Option Addr) (d k c e m t:Value):Obj:=⟨.type "function", none,fd s n q an d k c e m t,#[]⟩
abbrev D (es:List DictEntry) (n:Nat):Obj:=⟨.type "dict", none,.dict (List.toArray es) n,#[]⟩
abbrev C (n:String) (a:Nat) (q:String) (b c:Nat) (d e f g h:Int) (i:Value) (j:Bool) (k:Int) (l m o p r:Value) (s t:Int) (u:Nat):Obj:=⟨.type "code", none,.fields #[st n a,st q b,st "/claim/cut.py" c,.int d 0,.int e 0,.int f 0,.int g 0,.int h 0,i,.bool j,.int k 0,l,m,o,p,r,.int s 0,.int t 0,st "/claim/cut.py" u],#[]⟩
abbrev L (n:String) (b m:List Value) (a:Addr) (s:List Value) (sl:Array (Option Value)):Obj:=⟨.type "type", none,.cls { name:=Str.ofString n,bases:=b,mro:=m,ns:=a,qualname:=Str.ofString n,hasDict:=true,slotNames:=[],subclasses:=s,abstract:=false,collection:=none,hasDel:=false },sl⟩
def heap:Params → Frag:=fun P =>
    (List.cons (Prod.mk (nat_lit 2) ⟨.none,none,(.dict (List.toArray []) 0),#[]⟩)
(List.cons (Prod.mk (nat_lit 3) (D [(en P "__name__" 165 (st "law_sampleyard_k53_seen_through" 798)),(en P "__doc__" 166 .none),(en P "__package__" 167 .none),(en P "__loader__" 168 (.builtin "__main__.__loader__#opaque")),(en P "__spec__" 169 .none),(en P "__annotations__" 170 (.ref 6)),(en P "__builtins__" 171 (.ref 4)),(en P "__file__" 173 (st "/claim/cut.py" 172)),(en P "__cached__" 174 .none),(en P "_wall" 193 (.ref 21)),(en P "YardError" 213 (.ref 31)),(en P "BadTriangle" 229 (.ref 44)),(en P "BadThing" 245 (.ref 56)),(en P "BadPattern" 261 (.ref 68)),(en P "is_whole" 270 (.ref 77)),(en P "greatest_divisor" 281 (.ref 84)),(en P "summed_products" 289 (.ref 91)),(en P "ratio" 300 (.ref 98)),(en P "plus" 308 (.ref 105)),(en P "minus" 316 (.ref 112)),(en P "product" 324 (.ref 119)),(en P "under" 332 (.ref 126)),(en P "down" 339 (.ref 133)),(en P "is_fraction" 346 (.ref 140)),(en P "side" 359 (.ref 147)),(en P "edge_numbers" 367 (.ref 154)),(en P "edge_sum" 376 (.ref 161)),(en P "check_before_eye" 384 (.ref 168)),(en P "had" 393 (.ref 175)),(en P "weights" 401 (.ref 182)),(en P "seen_at" 411 (.ref 189)),(en P "depth_and_values" 417 (.ref 194)),(en P "weighed_h" 423 (.ref 199)),(en P "colour_seen" 434 (.ref 206)),(en P "sights_at" 445 (.ref 213)),(en P "colour_of" 456 (.ref 220)),(en P "nearest_of" 465 (.ref 227)),(en P "layers_over" 471 (.ref 232)),(en P "laid_over" 480 (.ref 239)),(en P "MOST_VALUES" 484 (.int (3) 483)),(en P "check_triangle" 492 (.ref 246)),(en P "is_corner" 498 (.ref 251)),(en P "are_values" 504 (.ref 256)),(en P "COUNTS" 512 (.ref 257)),(en P "check_pattern" 518 (.ref 262)),(en P "copied" 524 (.ref 267)),(en P "entry_at" 534 (.ref 274)),(en P "Thing" 572 (.ref 298)),(en P "Plain" 621 (.ref 340)),(en P "Shaded" 668 (.ref 380)),(en P "Patterned" 717 (.ref 420)),(en P "Glass" 775 (.ref 467)),(en P "check_values" 783 (.ref 476)),(en P "check_colour" 790 (.ref 483)),(en P "check_part" 797 (.ref 490)),(en P "_law_cell_at" 807 (.ref 497)),(en P "_law_mixed" 816 (.ref 504)),(en P "_law_draws" 822 (.ref 509)),(en P "_law_corner" 828 (.ref 514)),(en P "_law_triangles" 834 (.ref 519)),(en P "_law_pattern" 849 (.ref 526)),(en P "_law_thing" 855 (.ref 531)),(en P "_law_things" 869 (.ref 538)),(en P "_law_less" 877 (.ref 545)),(en P "_law_sights" 890 (.ref 552)),(en P "_law_colour" 896 (.ref 557)),(en P "_law_flat" 902 (.ref 562)),(en P "law" 908 (.ref 567))] 68))
(List.cons (Prod.mk (nat_lit 15) (T #[]))
(List.cons (Prod.mk (nat_lit 17) (T #[(st "k" 190)]))
(List.cons (Prod.mk (nat_lit 18) (T #[]))
(List.cons (Prod.mk (nat_lit 20) (C "_wall" 187 "_wall" 188 189 1 1 0 0 3 (.ref 15) true 181 (.ref 16) .none (.ref 17) (.ref 18) (.ref 19) 191 1 192))
(List.cons (Prod.mk (nat_lit 21) (F (top 0) "_wall" "_wall" none .none .none (.ref 20) .none (st "__main__" 164) .none))
(List.cons (Prod.mk (nat_lit 22) (T #[(.type "ValueError")]))
(List.cons (Prod.mk (nat_lit 29) (T #[]))
(List.cons (Prod.mk (nat_lit 30) (D [(en P "__module__" 203 (st "sampleyard.errors" 194)),(en P "__firstlineno__" 207 (.int (5) 206)),(en P "__static_attributes__" 208 (.ref 29)),(en P "__weakref__" 210 (.ref 32)),(en P "__doc__" 211 .none)] 3))
(List.cons (Prod.mk (nat_lit 31) (L "YardError" [(.type "ValueError")] [(.ref 31),(.type "ValueError"),(.type "Exception"),(.type "BaseException"),(.type "object")] 30 [(.ref 44),(.ref 56),(.ref 68)] #[(some (.ref 22)),none,(some (st "YardError" 196)),(some (st "YardError" 204)),(some (.builtin "ValueError.__new__")),(some (.bool true))]))
(List.cons (Prod.mk (nat_lit 32) ⟨(.type "getset_descriptor"),none,(.fields #[(st "__weakref__" 209),(.ref 31),(.builtin "ExceptionGroup.__weakref__"),.none]),#[]⟩)
(List.cons (Prod.mk (nat_lit 35) (T #[(.ref 31)]))
(List.cons (Prod.mk (nat_lit 42) (T #[]))
(List.cons (Prod.mk (nat_lit 43) (D [(en P "__module__" 221 (st "sampleyard.errors" 194)),(en P "__firstlineno__" 225 (.int (7) 224)),(en P "__static_attributes__" 226 (.ref 42)),(en P "__doc__" 227 .none)] 2))
(List.cons (Prod.mk (nat_lit 44) (L "BadTriangle" [(.ref 31)] [(.ref 44),(.ref 31),(.type "ValueError"),(.type "Exception"),(.type "BaseException"),(.type "object")] 43 [] #[(some (.ref 35)),none,(some (st "BadTriangle" 214)),(some (st "BadTriangle" 222)),(some (.builtin "ValueError.__new__")),(some (.bool true))]))
(List.cons (Prod.mk (nat_lit 47) (T #[(.ref 31)]))
(List.cons (Prod.mk (nat_lit 54) (T #[]))
(List.cons (Prod.mk (nat_lit 55) (D [(en P "__module__" 237 (st "sampleyard.errors" 194)),(en P "__firstlineno__" 241 (.int (9) 240)),(en P "__static_attributes__" 242 (.ref 54)),(en P "__doc__" 243 .none)] 2))
(List.cons (Prod.mk (nat_lit 56) (L "BadThing" [(.ref 31)] [(.ref 56),(.ref 31),(.type "ValueError"),(.type "Exception"),(.type "BaseException"),(.type "object")] 55 [] #[(some (.ref 47)),none,(some (st "BadThing" 230)),(some (st "BadThing" 238)),(some (.builtin "ValueError.__new__")),(some (.bool true))]))
(List.cons (Prod.mk (nat_lit 59) (T #[(.ref 31)]))
(List.cons (Prod.mk (nat_lit 66) (T #[]))
(List.cons (Prod.mk (nat_lit 67) (D [(en P "__module__" 253 (st "sampleyard.errors" 194)),(en P "__firstlineno__" 257 (.int (11) 256)),(en P "__static_attributes__" 258 (.ref 66)),(en P "__doc__" 259 .none)] 2))
(List.cons (Prod.mk (nat_lit 68) (L "BadPattern" [(.ref 31)] [(.ref 68),(.ref 31),(.type "ValueError"),(.type "Exception"),(.type "BaseException"),(.type "object")] 67 [] #[(some (.ref 59)),none,(some (st "BadPattern" 246)),(some (st "BadPattern" 254)),(some (.builtin "ValueError.__new__")),(some (.bool true))]))
(List.cons (Prod.mk (nat_lit 71) (T #[]))
(List.cons (Prod.mk (nat_lit 73) (T #[(st "thing" 267)]))
(List.cons (Prod.mk (nat_lit 74) (T #[]))
(List.cons (Prod.mk (nat_lit 76) (C "is_whole" 264 "is_whole" 265 266 14 1 0 0 3 (.ref 71) true 181 (.ref 72) .none (.ref 73) (.ref 74) (.ref 75) 268 14 269))
(List.cons (Prod.mk (nat_lit 77) (F (top 7) "is_whole" "is_whole" none .none .none (.ref 76) .none (st "sampleyard.whole" 262) .none))
(List.cons (Prod.mk (nat_lit 78) (T #[]))
(List.cons (Prod.mk (nat_lit 80) (T #[(st "numbers" 274),(st "found" 275),(st "number" 276),(st "rest" 277),(st "left" 278)]))
(List.cons (Prod.mk (nat_lit 81) (T #[]))
(List.cons (Prod.mk (nat_lit 83) (C "greatest_divisor" 271 "greatest_divisor" 272 273 16 1 0 0 3 (.ref 78) true 181 (.ref 79) .none (.ref 80) (.ref 81) (.ref 82) 279 16 280))
(List.cons (Prod.mk (nat_lit 84) (F (top 8) "greatest_divisor" "greatest_divisor" none .none .none (.ref 83) .none (st "sampleyard.whole" 262) .none))
(List.cons (Prod.mk (nat_lit 85) (T #[]))
(List.cons (Prod.mk (nat_lit 87) (T #[(st "three" 285),(st "other" 286)]))
(List.cons (Prod.mk (nat_lit 88) (T #[]))
(List.cons (Prod.mk (nat_lit 90) (C "summed_products" 282 "summed_products" 283 284 25 2 0 0 3 (.ref 85) true 181 (.ref 86) .none (.ref 87) (.ref 88) (.ref 89) 287 25 288))
(List.cons (Prod.mk (nat_lit 91) (F (top 9) "summed_products" "summed_products" none .none .none (.ref 90) .none (st "sampleyard.whole" 262) .none))
(List.cons (Prod.mk (nat_lit 92) (T #[]))
(List.cons (Prod.mk (nat_lit 94) (T #[(st "top" 295),(st "bottom" 296),(st "divisor" 297)]))
(List.cons (Prod.mk (nat_lit 95) (T #[]))
(List.cons (Prod.mk (nat_lit 97) (C "ratio" 292 "ratio" 293 294 28 2 0 0 3 (.ref 92) true 181 (.ref 93) .none (.ref 94) (.ref 95) (.ref 96) 298 28 299))
(List.cons (Prod.mk (nat_lit 98) (F (top 11) "ratio" "ratio" none .none .none (.ref 97) .none (st "sampleyard.fractions" 290) .none))
(List.cons (Prod.mk (nat_lit 99) (T #[]))
(List.cons (Prod.mk (nat_lit 101) (T #[(st "one" 304),(st "other" 305)]))
(List.cons (Prod.mk (nat_lit 102) (T #[]))
(List.cons (Prod.mk (nat_lit 104) (C "plus" 301 "plus" 302 303 33 2 0 0 3 (.ref 99) true 181 (.ref 100) .none (.ref 101) (.ref 102) (.ref 103) 306 33 307))
(List.cons (Prod.mk (nat_lit 105) (F (top 12) "plus" "plus" none .none .none (.ref 104) .none (st "sampleyard.fractions" 290) .none))
(List.cons (Prod.mk (nat_lit 106) (T #[]))
(List.cons (Prod.mk (nat_lit 108) (T #[(st "one" 312),(st "other" 313)]))
(List.cons (Prod.mk (nat_lit 109) (T #[]))
(List.cons (Prod.mk (nat_lit 111) (C "minus" 309 "minus" 310 311 35 2 0 0 3 (.ref 106) true 181 (.ref 107) .none (.ref 108) (.ref 109) (.ref 110) 314 35 315))
(List.cons (Prod.mk (nat_lit 112) (F (top 13) "minus" "minus" none .none .none (.ref 111) .none (st "sampleyard.fractions" 290) .none))
(List.cons (Prod.mk (nat_lit 113) (T #[]))
(List.cons (Prod.mk (nat_lit 115) (T #[(st "one" 320),(st "other" 321)]))
(List.cons (Prod.mk (nat_lit 116) (T #[]))
(List.cons (Prod.mk (nat_lit 118) (C "product" 317 "product" 318 319 37 2 0 0 3 (.ref 113) true 181 (.ref 114) .none (.ref 115) (.ref 116) (.ref 117) 322 37 323))
(List.cons (Prod.mk (nat_lit 119) (F (top 14) "product" "product" none .none .none (.ref 118) .none (st "sampleyard.fractions" 290) .none))
(List.cons (Prod.mk (nat_lit 120) (T #[]))
(List.cons (Prod.mk (nat_lit 122) (T #[(st "one" 328),(st "other" 329)]))
(List.cons (Prod.mk (nat_lit 123) (T #[]))
(List.cons (Prod.mk (nat_lit 125) (C "under" 325 "under" 326 327 39 2 0 0 3 (.ref 120) true 181 (.ref 121) .none (.ref 122) (.ref 123) (.ref 124) 330 39 331))
(List.cons (Prod.mk (nat_lit 126) (F (top 15) "under" "under" none .none .none (.ref 125) .none (st "sampleyard.fractions" 290) .none))
(List.cons (Prod.mk (nat_lit 127) (T #[]))
(List.cons (Prod.mk (nat_lit 129) (T #[(st "one" 336)]))
(List.cons (Prod.mk (nat_lit 130) (T #[]))
(List.cons (Prod.mk (nat_lit 132) (C "down" 333 "down" 334 335 41 1 0 0 3 (.ref 127) true 181 (.ref 128) .none (.ref 129) (.ref 130) (.ref 131) 337 41 338))
(List.cons (Prod.mk (nat_lit 133) (F (top 16) "down" "down" none .none .none (.ref 132) .none (st "sampleyard.fractions" 290) .none))
(List.cons (Prod.mk (nat_lit 134) (T #[]))
(List.cons (Prod.mk (nat_lit 136) (T #[(st "thing" 343)]))
(List.cons (Prod.mk (nat_lit 137) (T #[]))
(List.cons (Prod.mk (nat_lit 139) (C "is_fraction" 340 "is_fraction" 341 342 43 1 0 0 3 (.ref 134) true 181 (.ref 135) .none (.ref 136) (.ref 137) (.ref 138) 344 43 345))
(List.cons (Prod.mk (nat_lit 140) (F (top 17) "is_fraction" "is_fraction" none .none .none (.ref 139) .none (st "sampleyard.fractions" 290) .none))
(List.cons (Prod.mk (nat_lit 141) (T #[]))
(List.cons (Prod.mk (nat_lit 143) (T #[(st "one" 352),(st "other" 353),(st "point" 354),(st "n" 355),(st "number" 356)]))
(List.cons (Prod.mk (nat_lit 144) (T #[]))
(List.cons (Prod.mk (nat_lit 146) (C "side" 349 "side" 350 351 50 3 0 0 3 (.ref 141) true 181 (.ref 142) .none (.ref 143) (.ref 144) (.ref 145) 357 50 358))
(List.cons (Prod.mk (nat_lit 147) (F (top 19) "side" "side" none .none .none (.ref 146) .none (st "sampleyard.edges" 347) .none))
(List.cons (Prod.mk (nat_lit 148) (T #[]))
(List.cons (Prod.mk (nat_lit 150) (T #[(st "one" 363),(st "other" 364)]))
(List.cons (Prod.mk (nat_lit 151) (T #[]))
(List.cons (Prod.mk (nat_lit 153) (C "edge_numbers" 360 "edge_numbers" 361 362 56 2 0 0 3 (.ref 148) true 181 (.ref 149) .none (.ref 150) (.ref 151) (.ref 152) 365 56 366))
(List.cons (Prod.mk (nat_lit 154) (F (top 20) "edge_numbers" "edge_numbers" none .none .none (.ref 153) .none (st "sampleyard.edges" 347) .none))
(List.cons (Prod.mk (nat_lit 155) (T #[]))
(List.cons (Prod.mk (nat_lit 157) (T #[(st "one" 371),(st "other" 372),(st "point" 373)]))
(List.cons (Prod.mk (nat_lit 158) (T #[]))
(List.cons (Prod.mk (nat_lit 160) (C "edge_sum" 368 "edge_sum" 369 370 58 3 0 0 3 (.ref 155) true 181 (.ref 156) .none (.ref 157) (.ref 158) (.ref 159) 374 58 375))
(List.cons (Prod.mk (nat_lit 161) (F (top 21) "edge_sum" "edge_sum" none .none .none (.ref 160) .none (st "sampleyard.edges" 347) .none))
(List.cons (Prod.mk (nat_lit 162) (T #[]))
(List.cons (Prod.mk (nat_lit 164) (T #[(st "corners" 380),(st "corner" 381)]))
(List.cons (Prod.mk (nat_lit 165) (T #[]))
(List.cons (Prod.mk (nat_lit 167) (C "check_before_eye" 377 "check_before_eye" 378 379 60 1 0 0 3 (.ref 162) true 181 (.ref 163) .none (.ref 164) (.ref 165) (.ref 166) 382 60 383))
(List.cons (Prod.mk (nat_lit 168) (F (top 22) "check_before_eye" "check_before_eye" none .none .none (.ref 167) .none (st "sampleyard.edges" 347) .none))
(List.cons (Prod.mk (nat_lit 169) (T #[]))
(List.cons (Prod.mk (nat_lit 171) (T #[(st "triangle" 388),(st "point" 389),(st "turn" 390)]))
(List.cons (Prod.mk (nat_lit 172) (T #[]))
(List.cons (Prod.mk (nat_lit 174) (C "had" 385 "had" 386 387 64 2 0 0 3 (.ref 169) true 181 (.ref 170) .none (.ref 171) (.ref 172) (.ref 173) 391 64 392))
(List.cons (Prod.mk (nat_lit 175) (F (top 23) "had" "had" none .none .none (.ref 174) .none (st "sampleyard.edges" 347) .none))
(List.cons (Prod.mk (nat_lit 176) (T #[]))
(List.cons (Prod.mk (nat_lit 178) (T #[(st "triangle" 397),(st "point" 398)]))
(List.cons (Prod.mk (nat_lit 179) (T #[]))
(List.cons (Prod.mk (nat_lit 181) (C "weights" 394 "weights" 395 396 70 2 0 0 3 (.ref 176) true 181 (.ref 177) .none (.ref 178) (.ref 179) (.ref 180) 399 70 400))
(List.cons (Prod.mk (nat_lit 182) (F (top 24) "weights" "weights" none .none .none (.ref 181) .none (st "sampleyard.edges" 347) .none))
(List.cons (Prod.mk (nat_lit 183) (T #[]))
(List.cons (Prod.mk (nat_lit 185) (T #[(st "triangle" 407),(st "point" 408)]))
(List.cons (Prod.mk (nat_lit 186) (T #[]))
(List.cons (Prod.mk (nat_lit 188) (C "seen_at" 404 "seen_at" 405 406 73 2 0 0 3 (.ref 183) true 181 (.ref 184) .none (.ref 185) (.ref 186) (.ref 187) 409 73 410))
(List.cons (Prod.mk (nat_lit 189) (F (top 26) "seen_at" "seen_at" none .none .none (.ref 188) .none (st "sampleyard.seen" 402) .none))
(List.cons (Prod.mk (nat_lit 190) (T #[]))
(List.cons (Prod.mk (nat_lit 193) (C "depth_and_values" 412 "depth_and_values" 413 414 77 2 0 0 3 (.ref 190) true 181 (.ref 191) .none .none .none (.ref 192) 415 77 416))
(List.cons (Prod.mk (nat_lit 194) (F (top 27) "depth_and_values" "depth_and_values" none .none .none (.ref 193) .none (st "sampleyard.seen" 402) .none))
(List.cons (Prod.mk (nat_lit 195) (T #[]))
(List.cons (Prod.mk (nat_lit 198) (C "weighed_h" 418 "weighed_h" 419 420 82 2 0 0 3 (.ref 195) true 181 (.ref 196) .none .none .none (.ref 197) 421 82 422))
(List.cons (Prod.mk (nat_lit 199) (F (top 28) "weighed_h" "weighed_h" none .none .none (.ref 198) .none (st "sampleyard.seen" 402) .none))
(List.cons (Prod.mk (nat_lit 200) (T #[]))
(List.cons (Prod.mk (nat_lit 202) (T #[(st "things" 429),(st "p" 430),(st "ground" 431)]))
(List.cons (Prod.mk (nat_lit 203) (T #[]))
(List.cons (Prod.mk (nat_lit 205) (C "colour_seen" 426 "colour_seen" 427 428 85 3 0 0 3 (.ref 200) true 181 (.ref 201) .none (.ref 202) (.ref 203) (.ref 204) 432 85 433))
(List.cons (Prod.mk (nat_lit 206) (F (top 30) "colour_seen" "colour_seen" none .none .none (.ref 205) .none (st "sampleyard.paint" 424) .none))
(List.cons (Prod.mk (nat_lit 207) (T #[]))
(List.cons (Prod.mk (nat_lit 209) (T #[(st "things" 438),(st "p" 439),(st "sights" 440),(st "thing" 441),(st "seen" 442)]))
(List.cons (Prod.mk (nat_lit 210) (T #[]))
(List.cons (Prod.mk (nat_lit 212) (C "sights_at" 435 "sights_at" 436 437 87 2 0 0 3 (.ref 207) true 181 (.ref 208) .none (.ref 209) (.ref 210) (.ref 211) 443 87 444))
(List.cons (Prod.mk (nat_lit 213) (F (top 31) "sights_at" "sights_at" none .none .none (.ref 212) .none (st "sampleyard.paint" 424) .none))
(List.cons (Prod.mk (nat_lit 214) (T #[]))
(List.cons (Prod.mk (nat_lit 216) (T #[(st "sights" 449),(st "ground" 450),(st "nearest" 451),(st "colour" 452),(st "sight" 453)]))
(List.cons (Prod.mk (nat_lit 217) (T #[]))
(List.cons (Prod.mk (nat_lit 219) (C "colour_of" 446 "colour_of" 447 448 94 2 0 0 3 (.ref 214) true 181 (.ref 215) .none (.ref 216) (.ref 217) (.ref 218) 454 94 455))
(List.cons (Prod.mk (nat_lit 220) (F (top 32) "colour_of" "colour_of" none .none .none (.ref 219) .none (st "sampleyard.paint" 424) .none))
(List.cons (Prod.mk (nat_lit 221) (T #[]))
(List.cons (Prod.mk (nat_lit 223) (T #[(st "sights" 460),(st "nearest" 461),(st "sight" 462)]))
(List.cons (Prod.mk (nat_lit 224) (T #[]))
(List.cons (Prod.mk (nat_lit 226) (C "nearest_of" 457 "nearest_of" 458 459 102 1 0 0 3 (.ref 221) true 181 (.ref 222) .none (.ref 223) (.ref 224) (.ref 225) 463 102 464))
(List.cons (Prod.mk (nat_lit 227) (F (top 33) "nearest_of" "nearest_of" none .none .none (.ref 226) .none (st "sampleyard.paint" 424) .none))
(List.cons (Prod.mk (nat_lit 228) (T #[]))
(List.cons (Prod.mk (nat_lit 231) (C "layers_over" 466 "layers_over" 467 468 110 2 0 0 3 (.ref 228) true 181 (.ref 229) .none .none .none (.ref 230) 469 110 470))
(List.cons (Prod.mk (nat_lit 232) (F (top 34) "layers_over" "layers_over" none .none .none (.ref 231) .none (st "sampleyard.paint" 424) .none))
(List.cons (Prod.mk (nat_lit 233) (T #[]))
(List.cons (Prod.mk (nat_lit 235) (T #[(st "glass" 475),(st "colour" 476),(st "left" 477)]))
(List.cons (Prod.mk (nat_lit 236) (T #[]))
(List.cons (Prod.mk (nat_lit 238) (C "laid_over" 472 "laid_over" 473 474 117 2 0 0 3 (.ref 233) true 181 (.ref 234) .none (.ref 235) (.ref 236) (.ref 237) 478 117 479))
(List.cons (Prod.mk (nat_lit 239) (F (top 35) "laid_over" "laid_over" none .none .none (.ref 238) .none (st "sampleyard.paint" 424) .none))
(List.cons (Prod.mk (nat_lit 240) (T #[]))
(List.cons (Prod.mk (nat_lit 242) (T #[(st "triangle" 488),(st "corner" 489)]))
(List.cons (Prod.mk (nat_lit 243) (T #[]))
(List.cons (Prod.mk (nat_lit 245) (C "check_triangle" 485 "check_triangle" 486 487 122 1 0 0 3 (.ref 240) true 181 (.ref 241) .none (.ref 242) (.ref 243) (.ref 244) 490 122 491))
(List.cons (Prod.mk (nat_lit 246) (F (top 38) "check_triangle" "check_triangle" none .none .none (.ref 245) .none (st "sampleyard.corners" 481) .none))
(List.cons (Prod.mk (nat_lit 247) (T #[]))
(List.cons (Prod.mk (nat_lit 250) (C "is_corner" 493 "is_corner" 494 495 130 1 0 0 3 (.ref 247) true 181 (.ref 248) .none .none .none (.ref 249) 496 130 497))
(List.cons (Prod.mk (nat_lit 251) (F (top 39) "is_corner" "is_corner" none .none .none (.ref 250) .none (st "sampleyard.corners" 481) .none))
(List.cons (Prod.mk (nat_lit 252) (T #[]))
(List.cons (Prod.mk (nat_lit 255) (C "are_values" 499 "are_values" 500 501 136 1 0 0 3 (.ref 252) true 181 (.ref 253) .none .none .none (.ref 254) 502 136 503))
(List.cons (Prod.mk (nat_lit 256) (F (top 40) "are_values" "are_values" none .none .none (.ref 255) .none (st "sampleyard.corners" 481) .none))
(List.cons (Prod.mk (nat_lit 257) (T #[(.int (1) 507),(.int (2) 508),(.int (4) 509),(.int (8) 510),(.int (16) 511)]))
(List.cons (Prod.mk (nat_lit 258) (T #[]))
(List.cons (Prod.mk (nat_lit 261) (C "check_pattern" 513 "check_pattern" 514 515 142 1 0 0 3 (.ref 258) true 181 (.ref 259) .none .none .none (.ref 260) 516 142 517))
(List.cons (Prod.mk (nat_lit 262) (F (top 43) "check_pattern" "check_pattern" none .none .none (.ref 261) .none (st "sampleyard.patterns" 505) .none))
(List.cons (Prod.mk (nat_lit 263) (T #[]))
(List.cons (Prod.mk (nat_lit 266) (C "copied" 519 "copied" 520 521 152 1 0 0 3 (.ref 263) true 181 (.ref 264) .none .none .none (.ref 265) 522 152 523))
(List.cons (Prod.mk (nat_lit 267) (F (top 44) "copied" "copied" none .none .none (.ref 266) .none (st "sampleyard.patterns" 505) .none))
(List.cons (Prod.mk (nat_lit 268) (T #[]))
(List.cons (Prod.mk (nat_lit 270) (T #[(st "pattern" 528),(st "u" 529),(st "v" 530),(st "row" 531)]))
(List.cons (Prod.mk (nat_lit 271) (T #[]))
(List.cons (Prod.mk (nat_lit 273) (C "entry_at" 525 "entry_at" 526 527 154 3 0 0 3 (.ref 268) true 181 (.ref 269) .none (.ref 270) (.ref 271) (.ref 272) 532 154 533))
(List.cons (Prod.mk (nat_lit 274) (F (top 45) "entry_at" "entry_at" none .none .none (.ref 273) .none (st "sampleyard.patterns" 505) .none))
(List.cons (Prod.mk (nat_lit 282) (T #[]))
(List.cons (Prod.mk (nat_lit 284) (T #[(st "self" 552),(st "triangle" 553)]))
(List.cons (Prod.mk (nat_lit 285) (T #[]))
(List.cons (Prod.mk (nat_lit 287) (C "__init__" 549 "Thing.__init__" 550 551 160 2 0 0 3 (.ref 282) true 181 (.ref 283) .none (.ref 284) (.ref 285) (.ref 286) 554 160 555))
(List.cons (Prod.mk (nat_lit 288) (F (inClass (top 47) 0) "__init__" "Thing.__init__" none .none .none (.ref 287) .none (st "sampleyard.things" 535) .none))
(List.cons (Prod.mk (nat_lit 289) (T #[]))
(List.cons (Prod.mk (nat_lit 291) (T #[(st "self" 560)]))
(List.cons (Prod.mk (nat_lit 292) (T #[]))
(List.cons (Prod.mk (nat_lit 294) (C "is_glass" 557 "Thing.is_glass" 558 559 165 1 0 0 3 (.ref 289) true 181 (.ref 290) .none (.ref 291) (.ref 292) (.ref 293) 561 165 562))
(List.cons (Prod.mk (nat_lit 295) (F (inClass (top 47) 1) "is_glass" "Thing.is_glass" none .none .none (.ref 294) .none (st "sampleyard.things" 535) .none))
(List.cons (Prod.mk (nat_lit 296) (T #[(st "triangle" 564)]))
(List.cons (Prod.mk (nat_lit 297) (D [(en P "__module__" 544 (st "sampleyard.things" 535)),(en P "__firstlineno__" 548 (.int (158) 547)),(en P "__init__" 556 (.ref 288)),(en P "is_glass" 563 (.ref 295)),(en P "__static_attributes__" 565 (.ref 296)),(en P "__dict__" 567 (.ref 299)),(en P "__weakref__" 569 (.ref 300)),(en P "__doc__" 570 .none)] 4))
(List.cons (Prod.mk (nat_lit 298) (L "Thing" [(.type "object")] [(.ref 298),(.type "object")] 297 [(.ref 340),(.ref 380),(.ref 420),(.ref 467)] #[none,none,(some (st "Thing" 537)),(some (st "Thing" 545)),(some (.builtin "object.__new__")),(some (.bool true))]))
(List.cons (Prod.mk (nat_lit 299) ⟨(.type "getset_descriptor"),none,(.fields #[(st "__dict__" 566),(.ref 298),(.builtin "function.__dict__"),(.builtin "function.__dict__#set")]),#[]⟩)
(List.cons (Prod.mk (nat_lit 300) ⟨(.type "getset_descriptor"),none,(.fields #[(st "__weakref__" 568),(.ref 298),(.builtin "ExceptionGroup.__weakref__"),.none]),#[]⟩)
(List.cons (Prod.mk (nat_lit 303) (T #[(.ref 298)]))
(List.cons (Prod.mk (nat_lit 310) (T #[]))
(List.cons (Prod.mk (nat_lit 312) (T #[(st "self" 588),(st "triangle" 589),(st "colour" 590)]))
(List.cons (Prod.mk (nat_lit 313) (T #[]))
(List.cons (Prod.mk (nat_lit 315) (C "__init__" 585 "Plain.__init__" 586 587 169 3 0 0 3 (.ref 310) true 181 (.ref 311) .none (.ref 312) (.ref 313) (.ref 314) 591 169 592))
(List.cons (Prod.mk (nat_lit 316) (F (inClass (top 48) 0) "__init__" "Plain.__init__" none .none .none (.ref 315) .none (st "sampleyard.things" 535) .none))
(List.cons (Prod.mk (nat_lit 317) (T #[]))
(List.cons (Prod.mk (nat_lit 319) (T #[(st "self" 597)]))
(List.cons (Prod.mk (nat_lit 320) (T #[]))
(List.cons (Prod.mk (nat_lit 322) (C "word" 594 "Plain.word" 595 596 174 1 0 0 3 (.ref 317) true 181 (.ref 318) .none (.ref 319) (.ref 320) (.ref 321) 598 174 599))
(List.cons (Prod.mk (nat_lit 323) (F (inClass (top 48) 1) "word" "Plain.word" none .none .none (.ref 322) .none (st "sampleyard.things" 535) .none))
(List.cons (Prod.mk (nat_lit 324) (T #[]))
(List.cons (Prod.mk (nat_lit 326) (T #[(st "self" 604),(st "values" 605)]))
(List.cons (Prod.mk (nat_lit 327) (T #[]))
(List.cons (Prod.mk (nat_lit 329) (C "colour_at" 601 "Plain.colour_at" 602 603 177 2 0 0 3 (.ref 324) true 181 (.ref 325) .none (.ref 326) (.ref 327) (.ref 328) 606 177 607))
(List.cons (Prod.mk (nat_lit 330) (F (inClass (top 48) 2) "colour_at" "Plain.colour_at" none .none .none (.ref 329) .none (st "sampleyard.things" 535) .none))
(List.cons (Prod.mk (nat_lit 331) (T #[]))
(List.cons (Prod.mk (nat_lit 333) (T #[(st "self" 612),(st "triangle" 613)]))
(List.cons (Prod.mk (nat_lit 334) (T #[]))
(List.cons (Prod.mk (nat_lit 336) (C "like" 609 "Plain.like" 610 611 180 2 0 0 3 (.ref 331) true 181 (.ref 332) .none (.ref 333) (.ref 334) (.ref 335) 614 180 615))
(List.cons (Prod.mk (nat_lit 337) (F (inClass (top 48) 3) "like" "Plain.like" none .none .none (.ref 336) .none (st "sampleyard.things" 535) .none))
(List.cons (Prod.mk (nat_lit 338) (T #[(st "colour" 617)]))
(List.cons (Prod.mk (nat_lit 339) (D [(en P "__module__" 580 (st "sampleyard.things" 535)),(en P "__firstlineno__" 584 (.int (167) 583)),(en P "__init__" 593 (.ref 316)),(en P "word" 600 (.ref 323)),(en P "colour_at" 608 (.ref 330)),(en P "like" 616 (.ref 337)),(en P "__static_attributes__" 618 (.ref 338)),(en P "__doc__" 619 .none)] 2))
(List.cons (Prod.mk (nat_lit 340) (L "Plain" [(.ref 298)] [(.ref 340),(.ref 298),(.type "object")] 339 [] #[(some (.ref 303)),none,(some (st "Plain" 573)),(some (st "Plain" 581)),(some (.builtin "object.__new__")),(some (.bool true))]))
(List.cons (Prod.mk (nat_lit 343) (T #[(.ref 298)]))
(List.cons (Prod.mk (nat_lit 350) (T #[]))
(List.cons (Prod.mk (nat_lit 352) (T #[(st "self" 637),(st "triangle" 638)]))
(List.cons (Prod.mk (nat_lit 353) (T #[]))
(List.cons (Prod.mk (nat_lit 355) (C "__init__" 634 "Shaded.__init__" 635 636 184 2 0 0 3 (.ref 350) true 181 (.ref 351) .none (.ref 352) (.ref 353) (.ref 354) 639 184 640))
(List.cons (Prod.mk (nat_lit 356) (F (inClass (top 49) 0) "__init__" "Shaded.__init__" none .none .none (.ref 355) .none (st "sampleyard.things" 535) .none))
(List.cons (Prod.mk (nat_lit 357) (T #[]))
(List.cons (Prod.mk (nat_lit 359) (T #[(st "self" 645)]))
(List.cons (Prod.mk (nat_lit 360) (T #[]))
(List.cons (Prod.mk (nat_lit 362) (C "word" 642 "Shaded.word" 643 644 188 1 0 0 3 (.ref 357) true 181 (.ref 358) .none (.ref 359) (.ref 360) (.ref 361) 646 188 647))
(List.cons (Prod.mk (nat_lit 363) (F (inClass (top 49) 1) "word" "Shaded.word" none .none .none (.ref 362) .none (st "sampleyard.things" 535) .none))
(List.cons (Prod.mk (nat_lit 364) (T #[]))
(List.cons (Prod.mk (nat_lit 366) (T #[(st "self" 652),(st "values" 653)]))
(List.cons (Prod.mk (nat_lit 367) (T #[]))
(List.cons (Prod.mk (nat_lit 369) (C "colour_at" 649 "Shaded.colour_at" 650 651 191 2 0 0 3 (.ref 364) true 181 (.ref 365) .none (.ref 366) (.ref 367) (.ref 368) 654 191 655))
(List.cons (Prod.mk (nat_lit 370) (F (inClass (top 49) 2) "colour_at" "Shaded.colour_at" none .none .none (.ref 369) .none (st "sampleyard.things" 535) .none))
(List.cons (Prod.mk (nat_lit 371) (T #[]))
(List.cons (Prod.mk (nat_lit 373) (T #[(st "self" 660),(st "triangle" 661)]))
(List.cons (Prod.mk (nat_lit 374) (T #[]))
(List.cons (Prod.mk (nat_lit 376) (C "like" 657 "Shaded.like" 658 659 194 2 0 0 3 (.ref 371) true 181 (.ref 372) .none (.ref 373) (.ref 374) (.ref 375) 662 194 663))
(List.cons (Prod.mk (nat_lit 377) (F (inClass (top 49) 3) "like" "Shaded.like" none .none .none (.ref 376) .none (st "sampleyard.things" 535) .none))
(List.cons (Prod.mk (nat_lit 378) (T #[]))
(List.cons (Prod.mk (nat_lit 379) (D [(en P "__module__" 629 (st "sampleyard.things" 535)),(en P "__firstlineno__" 633 (.int (182) 632)),(en P "__init__" 641 (.ref 356)),(en P "word" 648 (.ref 363)),(en P "colour_at" 656 (.ref 370)),(en P "like" 664 (.ref 377)),(en P "__static_attributes__" 665 (.ref 378)),(en P "__doc__" 666 .none)] 2))
(List.cons (Prod.mk (nat_lit 380) (L "Shaded" [(.ref 298)] [(.ref 380),(.ref 298),(.type "object")] 379 [] #[(some (.ref 343)),none,(some (st "Shaded" 622)),(some (st "Shaded" 630)),(some (.builtin "object.__new__")),(some (.bool true))]))
(List.cons (Prod.mk (nat_lit 383) (T #[(.ref 298)]))
(List.cons (Prod.mk (nat_lit 390) (T #[]))
(List.cons (Prod.mk (nat_lit 392) (T #[(st "self" 684),(st "triangle" 685),(st "pattern" 686)]))
(List.cons (Prod.mk (nat_lit 393) (T #[]))
(List.cons (Prod.mk (nat_lit 395) (C "__init__" 681 "Patterned.__init__" 682 683 198 3 0 0 3 (.ref 390) true 181 (.ref 391) .none (.ref 392) (.ref 393) (.ref 394) 687 198 688))
(List.cons (Prod.mk (nat_lit 396) (F (inClass (top 50) 0) "__init__" "Patterned.__init__" none .none .none (.ref 395) .none (st "sampleyard.things" 535) .none))
(List.cons (Prod.mk (nat_lit 397) (T #[]))
(List.cons (Prod.mk (nat_lit 399) (T #[(st "self" 693)]))
(List.cons (Prod.mk (nat_lit 400) (T #[]))
(List.cons (Prod.mk (nat_lit 402) (C "word" 690 "Patterned.word" 691 692 204 1 0 0 3 (.ref 397) true 181 (.ref 398) .none (.ref 399) (.ref 400) (.ref 401) 694 204 695))
(List.cons (Prod.mk (nat_lit 403) (F (inClass (top 50) 1) "word" "Patterned.word" none .none .none (.ref 402) .none (st "sampleyard.things" 535) .none))
(List.cons (Prod.mk (nat_lit 404) (T #[]))
(List.cons (Prod.mk (nat_lit 406) (T #[(st "self" 700),(st "values" 701)]))
(List.cons (Prod.mk (nat_lit 407) (T #[]))
(List.cons (Prod.mk (nat_lit 409) (C "colour_at" 697 "Patterned.colour_at" 698 699 207 2 0 0 3 (.ref 404) true 181 (.ref 405) .none (.ref 406) (.ref 407) (.ref 408) 702 207 703))
(List.cons (Prod.mk (nat_lit 410) (F (inClass (top 50) 2) "colour_at" "Patterned.colour_at" none .none .none (.ref 409) .none (st "sampleyard.things" 535) .none))
(List.cons (Prod.mk (nat_lit 411) (T #[]))
(List.cons (Prod.mk (nat_lit 413) (T #[(st "self" 708),(st "triangle" 709)]))
(List.cons (Prod.mk (nat_lit 414) (T #[]))
(List.cons (Prod.mk (nat_lit 416) (C "like" 705 "Patterned.like" 706 707 210 2 0 0 3 (.ref 411) true 181 (.ref 412) .none (.ref 413) (.ref 414) (.ref 415) 710 210 711))
(List.cons (Prod.mk (nat_lit 417) (F (inClass (top 50) 3) "like" "Patterned.like" none .none .none (.ref 416) .none (st "sampleyard.things" 535) .none))
(List.cons (Prod.mk (nat_lit 418) (T #[(st "pattern" 713)]))
(List.cons (Prod.mk (nat_lit 419) (D [(en P "__module__" 676 (st "sampleyard.things" 535)),(en P "__firstlineno__" 680 (.int (196) 679)),(en P "__init__" 689 (.ref 396)),(en P "word" 696 (.ref 403)),(en P "colour_at" 704 (.ref 410)),(en P "like" 712 (.ref 417)),(en P "__static_attributes__" 714 (.ref 418)),(en P "__doc__" 715 .none)] 2))
(List.cons (Prod.mk (nat_lit 420) (L "Patterned" [(.ref 298)] [(.ref 420),(.ref 298),(.type "object")] 419 [] #[(some (.ref 383)),none,(some (st "Patterned" 669)),(some (st "Patterned" 677)),(some (.builtin "object.__new__")),(some (.bool true))]))
(List.cons (Prod.mk (nat_lit 423) (T #[(.ref 298)]))
(List.cons (Prod.mk (nat_lit 430) (T #[]))
(List.cons (Prod.mk (nat_lit 432) (T #[(st "self" 733),(st "triangle" 734),(st "colour" 735),(st "part" 736)]))
(List.cons (Prod.mk (nat_lit 433) (T #[]))
(List.cons (Prod.mk (nat_lit 435) (C "__init__" 730 "Glass.__init__" 731 732 214 4 0 0 3 (.ref 430) true 181 (.ref 431) .none (.ref 432) (.ref 433) (.ref 434) 737 214 738))
(List.cons (Prod.mk (nat_lit 436) (F (inClass (top 51) 0) "__init__" "Glass.__init__" none .none .none (.ref 435) .none (st "sampleyard.things" 535) .none))
(List.cons (Prod.mk (nat_lit 437) (T #[]))
(List.cons (Prod.mk (nat_lit 439) (T #[(st "self" 743)]))
(List.cons (Prod.mk (nat_lit 440) (T #[]))
(List.cons (Prod.mk (nat_lit 442) (C "word" 740 "Glass.word" 741 742 221 1 0 0 3 (.ref 437) true 181 (.ref 438) .none (.ref 439) (.ref 440) (.ref 441) 744 221 745))
(List.cons (Prod.mk (nat_lit 443) (F (inClass (top 51) 1) "word" "Glass.word" none .none .none (.ref 442) .none (st "sampleyard.things" 535) .none))
(List.cons (Prod.mk (nat_lit 444) (T #[]))
(List.cons (Prod.mk (nat_lit 446) (T #[(st "self" 750)]))
(List.cons (Prod.mk (nat_lit 447) (T #[]))
(List.cons (Prod.mk (nat_lit 449) (C "is_glass" 747 "Glass.is_glass" 748 749 224 1 0 0 3 (.ref 444) true 181 (.ref 445) .none (.ref 446) (.ref 447) (.ref 448) 751 224 752))
(List.cons (Prod.mk (nat_lit 450) (F (inClass (top 51) 2) "is_glass" "Glass.is_glass" none .none .none (.ref 449) .none (st "sampleyard.things" 535) .none))
(List.cons (Prod.mk (nat_lit 451) (T #[]))
(List.cons (Prod.mk (nat_lit 453) (T #[(st "self" 757),(st "values" 758)]))
(List.cons (Prod.mk (nat_lit 454) (T #[]))
(List.cons (Prod.mk (nat_lit 456) (C "colour_at" 754 "Glass.colour_at" 755 756 227 2 0 0 3 (.ref 451) true 181 (.ref 452) .none (.ref 453) (.ref 454) (.ref 455) 759 227 760))
(List.cons (Prod.mk (nat_lit 457) (F (inClass (top 51) 3) "colour_at" "Glass.colour_at" none .none .none (.ref 456) .none (st "sampleyard.things" 535) .none))
(List.cons (Prod.mk (nat_lit 458) (T #[]))
(List.cons (Prod.mk (nat_lit 460) (T #[(st "self" 765),(st "triangle" 766)]))
(List.cons (Prod.mk (nat_lit 461) (T #[]))
(List.cons (Prod.mk (nat_lit 463) (C "like" 762 "Glass.like" 763 764 230 2 0 0 3 (.ref 458) true 181 (.ref 459) .none (.ref 460) (.ref 461) (.ref 462) 767 230 768))
(List.cons (Prod.mk (nat_lit 464) (F (inClass (top 51) 4) "like" "Glass.like" none .none .none (.ref 463) .none (st "sampleyard.things" 535) .none))
(List.cons (Prod.mk (nat_lit 465) (T #[(st "colour" 770),(st "part" 771)]))
(List.cons (Prod.mk (nat_lit 466) (D [(en P "__module__" 725 (st "sampleyard.things" 535)),(en P "__firstlineno__" 729 (.int (212) 728)),(en P "__init__" 739 (.ref 436)),(en P "word" 746 (.ref 443)),(en P "is_glass" 753 (.ref 450)),(en P "colour_at" 761 (.ref 457)),(en P "like" 769 (.ref 464)),(en P "__static_attributes__" 772 (.ref 465)),(en P "__doc__" 773 .none)] 2))
(List.cons (Prod.mk (nat_lit 467) (L "Glass" [(.ref 298)] [(.ref 467),(.ref 298),(.type "object")] 466 [] #[(some (.ref 423)),none,(some (st "Glass" 718)),(some (st "Glass" 726)),(some (.builtin "object.__new__")),(some (.bool true))]))
(List.cons (Prod.mk (nat_lit 470) (T #[]))
(List.cons (Prod.mk (nat_lit 472) (T #[(st "triangle" 779),(st "least" 780)]))
(List.cons (Prod.mk (nat_lit 473) (T #[]))
(List.cons (Prod.mk (nat_lit 475) (C "check_values" 776 "check_values" 777 778 232 2 0 0 3 (.ref 470) true 181 (.ref 471) .none (.ref 472) (.ref 473) (.ref 474) 781 232 782))
(List.cons (Prod.mk (nat_lit 476) (F (top 52) "check_values" "check_values" none .none .none (.ref 475) .none (st "sampleyard.things" 535) .none))
(List.cons (Prod.mk (nat_lit 477) (T #[]))
(List.cons (Prod.mk (nat_lit 479) (T #[(st "colour" 787)]))
(List.cons (Prod.mk (nat_lit 480) (T #[]))
(List.cons (Prod.mk (nat_lit 482) (C "check_colour" 784 "check_colour" 785 786 235 1 0 0 3 (.ref 477) true 181 (.ref 478) .none (.ref 479) (.ref 480) (.ref 481) 788 235 789))
(List.cons (Prod.mk (nat_lit 483) (F (top 53) "check_colour" "check_colour" none .none .none (.ref 482) .none (st "sampleyard.things" 535) .none))
(List.cons (Prod.mk (nat_lit 484) (T #[]))
(List.cons (Prod.mk (nat_lit 486) (T #[(st "part" 794)]))
(List.cons (Prod.mk (nat_lit 487) (T #[]))
(List.cons (Prod.mk (nat_lit 489) (C "check_part" 791 "check_part" 792 793 238 1 0 0 3 (.ref 484) true 181 (.ref 485) .none (.ref 486) (.ref 487) (.ref 488) 795 238 796))
(List.cons (Prod.mk (nat_lit 490) (F (top 54) "check_part" "check_part" none .none .none (.ref 489) .none (st "sampleyard.things" 535) .none))
(List.cons (Prod.mk (nat_lit 491) (T #[]))
(List.cons (Prod.mk (nat_lit 493) (T #[(st "_law_script" 803),(st "_law_k" 804)]))
(List.cons (Prod.mk (nat_lit 494) (T #[]))
(List.cons (Prod.mk (nat_lit 496) (C "_law_cell_at" 800 "_law_cell_at" 801 802 242 2 0 0 3 (.ref 491) true 181 (.ref 492) .none (.ref 493) (.ref 494) (.ref 495) 805 242 806))
(List.cons (Prod.mk (nat_lit 497) (F (top 56) "_law_cell_at" "_law_cell_at" none .none .none (.ref 496) .none (st "law_sampleyard_k53_seen_through" 798) .none))
(List.cons (Prod.mk (nat_lit 498) (T #[]))
(List.cons (Prod.mk (nat_lit 500) (T #[(st "_law_cell" 811),(st "_law_k" 812),(st "_law_number" 813)]))
(List.cons (Prod.mk (nat_lit 501) (T #[]))
(List.cons (Prod.mk (nat_lit 503) (C "_law_mixed" 808 "_law_mixed" 809 810 246 2 0 0 3 (.ref 498) true 181 (.ref 499) .none (.ref 500) (.ref 501) (.ref 502) 814 246 815))
(List.cons (Prod.mk (nat_lit 504) (F (top 57) "_law_mixed" "_law_mixed" none .none .none (.ref 503) .none (st "law_sampleyard_k53_seen_through" 798) .none))
(List.cons (Prod.mk (nat_lit 505) (T #[]))
(List.cons (Prod.mk (nat_lit 508) (C "_law_draws" 817 "_law_draws" 818 819 252 2 0 0 3 (.ref 505) true 181 (.ref 506) .none .none .none (.ref 507) 820 252 821))
(List.cons (Prod.mk (nat_lit 509) (F (top 58) "_law_draws" "_law_draws" none .none .none (.ref 508) .none (st "law_sampleyard_k53_seen_through" 798) .none))
(List.cons (Prod.mk (nat_lit 510) (T #[]))
(List.cons (Prod.mk (nat_lit 513) (C "_law_corner" 823 "_law_corner" 824 825 254 2 0 0 3 (.ref 510) true 181 (.ref 511) .none .none .none (.ref 512) 826 254 827))
(List.cons (Prod.mk (nat_lit 514) (F (top 59) "_law_corner" "_law_corner" none .none .none (.ref 513) .none (st "law_sampleyard_k53_seen_through" 798) .none))
(List.cons (Prod.mk (nat_lit 515) (T #[]))
(List.cons (Prod.mk (nat_lit 518) (C "_law_triangles" 829 "_law_triangles" 830 831 273 4 0 0 3 (.ref 515) true 181 (.ref 516) .none .none .none (.ref 517) 832 273 833))
(List.cons (Prod.mk (nat_lit 519) (F (top 60) "_law_triangles" "_law_triangles" none .none .none (.ref 518) .none (st "law_sampleyard_k53_seen_through" 798) .none))
(List.cons (Prod.mk (nat_lit 520) (T #[]))
(List.cons (Prod.mk (nat_lit 522) (T #[(st "_law_number" 838),(st "_law_more" 839),(st "_law_rows" 840),(st "_law_columns" 841),(st "_law_found" 842),(st "_law_r" 843),(st "_law_line" 844),(st "_law_c" 845),(st "_law_one" 846)]))
(List.cons (Prod.mk (nat_lit 523) (T #[]))
(List.cons (Prod.mk (nat_lit 525) (C "_law_pattern" 835 "_law_pattern" 836 837 286 2 0 0 3 (.ref 520) true 181 (.ref 521) .none (.ref 522) (.ref 523) (.ref 524) 847 286 848))
(List.cons (Prod.mk (nat_lit 526) (F (top 61) "_law_pattern" "_law_pattern" none .none .none (.ref 525) .none (st "law_sampleyard_k53_seen_through" 798) .none))
(List.cons (Prod.mk (nat_lit 527) (T #[]))
(List.cons (Prod.mk (nat_lit 530) (C "_law_thing" 850 "_law_thing" 851 852 297 2 0 0 3 (.ref 527) true 181 (.ref 528) .none .none .none (.ref 529) 853 297 854))
(List.cons (Prod.mk (nat_lit 531) (F (top 62) "_law_thing" "_law_thing" none .none .none (.ref 530) .none (st "law_sampleyard_k53_seen_through" 798) .none))
(List.cons (Prod.mk (nat_lit 532) (T #[]))
(List.cons (Prod.mk (nat_lit 534) (T #[(st "_law_script" 859),(st "_law_first" 860),(st "_law_most" 861),(st "_law_draws_here" 862),(st "_law_found" 863),(st "_law_many" 864),(st "_law_k" 865),(st "_law_triangle" 866)]))
(List.cons (Prod.mk (nat_lit 535) (T #[]))
(List.cons (Prod.mk (nat_lit 537) (C "_law_things" 856 "_law_things" 857 858 311 3 0 0 3 (.ref 532) true 181 (.ref 533) .none (.ref 534) (.ref 535) (.ref 536) 867 311 868))
(List.cons (Prod.mk (nat_lit 538) (F (top 63) "_law_things" "_law_things" none .none .none (.ref 537) .none (st "law_sampleyard_k53_seen_through" 798) .none))
(List.cons (Prod.mk (nat_lit 539) (T #[]))
(List.cons (Prod.mk (nat_lit 541) (T #[(st "_law_one" 873),(st "_law_other" 874)]))
(List.cons (Prod.mk (nat_lit 542) (T #[]))
(List.cons (Prod.mk (nat_lit 544) (C "_law_less" 870 "_law_less" 871 872 318 2 0 0 3 (.ref 539) true 181 (.ref 540) .none (.ref 541) (.ref 542) (.ref 543) 875 318 876))
(List.cons (Prod.mk (nat_lit 545) (F (top 64) "_law_less" "_law_less" none .none .none (.ref 544) .none (st "law_sampleyard_k53_seen_through" 798) .none))
(List.cons (Prod.mk (nat_lit 546) (T #[]))
(List.cons (Prod.mk (nat_lit 548) (T #[(st "_law_things_here" 881),(st "_law_point" 882),(st "_law_rows" 883),(st "_law_number" 884),(st "_law_thing_here" 885),(st "_law_told" 886),(st "_law_at" 887)]))
(List.cons (Prod.mk (nat_lit 549) (T #[]))
(List.cons (Prod.mk (nat_lit 551) (C "_law_sights" 878 "_law_sights" 879 880 320 2 0 0 3 (.ref 546) true 181 (.ref 547) .none (.ref 548) (.ref 549) (.ref 550) 888 320 889))
(List.cons (Prod.mk (nat_lit 552) (F (top 65) "_law_sights" "_law_sights" none .none .none (.ref 551) .none (st "law_sampleyard_k53_seen_through" 798) .none))
(List.cons (Prod.mk (nat_lit 553) (T #[]))
(List.cons (Prod.mk (nat_lit 556) (C "_law_colour" 891 "_law_colour" 892 893 330 3 0 0 3 (.ref 553) true 181 (.ref 554) .none .none .none (.ref 555) 894 330 895))
(List.cons (Prod.mk (nat_lit 557) (F (top 66) "_law_colour" "_law_colour" none .none .none (.ref 556) .none (st "law_sampleyard_k53_seen_through" 798) .none))
(List.cons (Prod.mk (nat_lit 558) (T #[]))
(List.cons (Prod.mk (nat_lit 561) (C "_law_flat" 897 "_law_flat" 898 899 344 2 0 0 3 (.ref 558) true 181 (.ref 559) .none .none .none (.ref 560) 900 344 901))
(List.cons (Prod.mk (nat_lit 562) (F (top 67) "_law_flat" "_law_flat" none .none .none (.ref 561) .none (st "law_sampleyard_k53_seen_through" 798) .none))
(List.cons (Prod.mk (nat_lit 563) (T #[]))
(List.cons (Prod.mk (nat_lit 566) (C "law" 903 "law" 904 905 351 1 0 0 3 (.ref 563) true 181 (.ref 564) .none .none .none (.ref 565) 906 351 907))
(List.cons (Prod.mk (nat_lit 567) (F (top 68) "law" "law" none .none .none (.ref 566) .none (st "law_sampleyard_k53_seen_through" 798) .none))
List.nil))))))))))))))))))))))))))))))))))))))))))))))))))))))))))))))))))))))))))))))))))))))))))))))))))))))))))))))))))))))))))))))))))))))))))))))))))))))))))))))))))))))))))))))))))))))))))))))))))))))))))))))))))))))))))))))))))))))))))))))))))))))))))))))))))))))))))))))))))))))))))))))))))))))))))))))))))))))))))))))))))))))))))))))))))))))))))))
abbrev addrs:List Addr:=[2,3,15,17,18,20,21,22,29,30,31,32,35,42,43,44,47,54,55,56,59,66,67,68,71,73,74,76,77,78,80,81,83,84,85,87,88,90,91,92,94,95,97,98,99,101,102,104,105,106,108,109,111,112,113,115,116,118,119,120,122,123,125,126,127,129,130,132,133,134,136,137,139,140,141,143,144,146,147,148,150,151,153,154,155,157,158,160,161,162,164,165,167,168,169,171,172,174,175,176,178,179,181,182,183,185,186,188,189,190,193,194,195,198,199,200,202,203,205,206,207,209,210,212,213,214,216,217,219,220,221,223,224,226,227,228,231,232,233,235,236,238,239,240,242,243,245,246,247,250,251,252,255,256,257,258,261,262,263,266,267,268,270,271,273,274,282,284,285,287,288,289,291,292,294,295,296,297,298,299,300,303,310,312,313,315,316,317,319,320,322,323,324,326,327,329,330,331,333,334,336,337,338,339,340,343,350,352,353,355,356,357,359,360,362,363,364,366,367,369,370,371,373,374,376,377,378,379,380,383,390,392,393,395,396,397,399,400,402,403,404,406,407,409,410,411,413,414,416,417,418,419,420,423,430,432,433,435,436,437,439,440,442,443,444,446,447,449,450,451,453,454,456,457,458,460,461,463,464,465,466,467,470,472,473,475,476,477,479,480,482,483,484,486,487,489,490,491,493,494,496,497,498,500,501,503,504,505,508,509,510,513,514,515,518,519,520,522,523,525,526,527,530,531,532,534,535,537,538,539,541,542,544,545,546,548,549,551,552,553,556,557,558,561,562,563,566,567]
abbrev most:Nat:=8134
theorem addrs_eq (P:Params):addrs = (heap P).map (·.1):=rfl
abbrev hook:Hook:=kHook heap addrs addrs_eq
end Hd
namespace Hd
open PySem PySem.W PyProof.Rows
def topRunT (tb:String → Option Builtin) (p:Program) (w:World) (n₀:Nat) (ann:Option Value):Nat → SharedT → Thread → Option SharedT
  | 0,_,_=>none
  | n + 1,s,t=>match through t with
    | true=>some s
    | false=>match stepOk n₀ ann t with
      | false=>none
      | true=>match stepT (denote tb) p w s t with
        | some (s',t')=>topRunT tb p w n₀ ann n s' t'
        | none=>none
theorem topRunT_of {tb:String → Option Builtin} {p:Program} {w:World} {n₀:Nat} {ann:Option Value}:∀ {n:Nat} {s s':SharedT} {t:Thread},topRunT tb p w n₀ ann n s t = some s' → topRun tb p w n₀ ann n s.abs t = some s'.abs
  | 0,_,_,_,h=>by cases h
  | n + 1,s,s',t,h=>by
    unfold topRunT at h
    unfold topRun
    cases he:through t with
    | true=>rw [he] at h;cases h;rfl
    | false =>
      rw [he] at h
      cases hk:stepOk n₀ ann t with
      | false=>rw [hk] at h;cases h
      | true =>
        rw [hk] at h
        cases hs:stepT (denote tb) p w s t with
        | none=>rw [hs] at h;cases h
        | some r=>obtain ⟨s₂,t₂⟩:=r;rw [hs] at h;rw [stepT_spec hs];exact topRunT_of h
def topRunQ (p:Program) (w:World) (n₀:Nat) (ann:Option Value):Nat → SharedT → Thread → Option SharedT
  | 0,_,_=>none
  | n + 1,s,t=>match through t with
    | true=>some s
    | false=>match Fast.tw6613529449190102663 n₀ ann t with
      | false=>none
      | true=>match Fast.tw10156331382660048174 (Fast.tw11892475500146522536 Fast.tw14364793385576792824) p w s t with
        | some (s',t')=>topRunQ p w n₀ ann n s' t'
        | none=>none
theorem topRunQ_eq (p:Program) (w:World) (n₀:Nat) (ann:Option Value):∀ (n:Nat) (s:SharedT) (t:Thread),topRunT treeTable p w n₀ ann n s t = topRunQ p w n₀ ann n s t
  | 0,_,_=>rfl
  | n + 1,s,t=>by
    unfold topRunT topRunQ
    rw [Fast.te6613529449190102663,Fast.te10156331382660048174,Fast.te11892475500146522536,Fast.te14364793385576792824]
    cases through t with
    | true=>rfl
    | false =>
      cases Fast.tw6613529449190102663 n₀ ann t with
      | false=>rfl
      | true =>
        cases Fast.tw10156331382660048174 (Fast.tw11892475500146522536 Fast.tw14364793385576792824) p w s t with
        | none=>rfl
        | some r =>
          obtain ⟨s',t'⟩:=r
          have:=topRunQ_eq p w n₀ ann n s' t'
          rw [Fast.te14364793385576792824] at this
          exact this
def treeFrom (i:Nat) (t:BT):List Obj → BT
  | []=>t
  | o :: r=>treeFrom (i + 1) (t.ins i o) r
def bootT (w:World) (os:OsState):SharedT:=⟨treeFrom 0 .nil (boot_heap w.params).objs.toList,(boot_heap w.params).objs.size,(boot_heap w.params).life,Array.mk [],boot_drawn,boot_toks,os⟩
theorem bootT_abs (w:World) (os:OsState):(bootT w os).abs = ⟨boot_heap w.params,Array.mk [],boot_drawn,boot_toks,os⟩:=by kernel_rfl
theorem left_tree {p q:Program} {loose:List Str} {Xt:Shared → Bool} {α:Type} {Yf:Shared → α} {Ya:World → α} {N m₀:Nat} {ann:Option Value} {g0:Bool}
    (e:opening p = plainProg p.main.scope.names) (hN:Nat.ble 600 N = true) (f:∀ s,fenceModules? p s = some s)
    (hz:∀ w:World,((boot_heap w.params).isNs mainGlobals,(boot_heap w.params).objs.size,(boot_heap w.params).nsMap mainGlobals "__annotations__") = (true,m₀,ann))
    (h:∀ (w:World) (os:OsState),(topRunQ p w m₀ ann N (bootT w os) (topStub p)).map (fun s=>((staticsOk (importedModules p.main.body) (boot_heap w.params) s.abs.heap && namesBound p s.abs.heap && gensDone s.abs && laidKept (boot_heap w.params) s.abs.heap),Fast.tw4187177175401517315 q loose (importedModules p.main.body) Xt g0 s.abs,Yf s.abs)) = some (true,openGood q loose,Ya w)) :
    LeftO p q loose Xt Yf Ya N g0:=fun w=>by
  obtain ⟨s,hs,hv⟩:=Option.map_eq_some_iff.mp (boot_open e hN f w)
  unfold openEnds
  rw [hs]
  obtain ⟨hp,g,d,k,os⟩:=s
  obtain ⟨rfl,rfl,rfl,rfl⟩ : hp = boot_heap w.params ∧ g = Array.mk [] ∧ d = boot_drawn ∧ k = boot_toks:=by simpa using hv
  obtain ⟨s₁,h1,h2⟩:=Option.map_eq_some_iff.mp (h w os)
  rw [← topRunQ_eq] at h1
  rw [← Fast.te4187177175401517315] at h2
  have r:=topRunT_of h1
  rw [bootT_abs] at r
  obtain ⟨z1,z2,z3⟩ : _ ∧ _ ∧ _:=by simpa only [Prod.mk.injEq] using hz w
  obtain ⟨l1,l2,l3⟩ : _ ∧ _ ∧ _:=by simpa only [Prod.mk.injEq] using h2
  show (topFrom treeTable p w N ⟨boot_heap w.params,Array.mk [],boot_drawn,boot_toks,os⟩).map _ = _
  unfold topFrom
  dsimp only
  rw [z1]
  show (((topRun treeTable p w (boot_heap w.params).objs.size ((boot_heap w.params).nsMap mainGlobals "__annotations__") N ⟨boot_heap w.params,Array.mk [],boot_drawn,boot_toks,os⟩ (topStub p)).bind fun s₁=>match staticsOk (importedModules p.main.body) (boot_heap w.params) s₁.heap && namesBound p s₁.heap && gensDone s₁ && laidKept (boot_heap w.params) s₁.heap with
      | true=>some s₁
      | false=>none).map _) = _
  rw [z2,z3,r]
  show ((match staticsOk (importedModules p.main.body) (boot_heap w.params) s₁.abs.heap && namesBound p s₁.abs.heap && gensDone s₁.abs && laidKept (boot_heap w.params) s₁.abs.heap with
      | true=>some s₁.abs
      | false=>none).map _) = _
  rw [l1]
  show some (openSeen q loose (importedModules p.main.body) Xt g0 s₁.abs,Yf s₁.abs) = _
  rw [l2,l3]
end Hd
namespace Hd
open PySem PySem.W PyProof.Rows
set_option maxRecDepth 100000 in
set_option maxHeartbeats 0 in
theorem left:LeftO PySem.Challenge.pw_sampleyard_k53_seen_through view [] (fun s=>xlAt view [] s && recOk (RowW.records PySem.Challenge.rw_sampleyard_k53_seen_through.row.toRowW) s) (Hook.obs hook) (Hook.val hook) most :=
  left_tree (by kernel_rfl) (by decide) (fun s=>by kernel_rfl) (m₀:=11) (ann:=some (.ref 6)) (fun w=>by kernel_rfl) (fun w os=>by kernel_rfl)
end Hd
namespace L2
open PySem PySem.Spec PyProof.Rows
abbrev Key:=Sum Int Str
def keyIs:Key → Value → Bool
 | .inl k,v=>Value.isInt k v
 | .inr x,v=>Value.isStrOf x v
def keyH (w:World):Key → Int
 | .inl k=>hashInt k
 | .inr x=>hashStr w x
theorem keyIs_shape:∀ {k:Key} {v:Value},keyIs k v = true → (∃ i t,k = Sum.inl i ∧ v = Value.int i t) ∨ (∃ x t,k = Sum.inr x ∧ v = Value.str x t)
 | .inl i,v,h=>by
  obtain ⟨t,e⟩:=Value.isInt_shape (k:=i) (v:=v) h
  exact .inl ⟨i,t,rfl,e⟩
 | .inr x,v,h=>by
  obtain ⟨t,e⟩:=Value.isStrOf_shape (x:=x) (v:=v) h
  exact .inr ⟨x,t,rfl,e⟩
theorem key_ll (a b:Int):decide ((Sum.inl a:Key) = Sum.inl b) = (a == b):=by
 by_cases e:a = b
 ·subst e;simp
 ·have h:¬ (Sum.inl a:Key) = Sum.inl b:=fun q=>e (Sum.inl.inj q)
  rw [decide_eq_false h]
  exact (beq_eq_false_iff_ne.mpr e).symm
theorem key_rr (a b:Str):decide ((Sum.inr a:Key) = Sum.inr b) = decide (a = b):=by
 by_cases e:a = b
 ·subst e;simp
 ·have h:¬ (Sum.inr a:Key) = Sum.inr b:=fun q=>e (Sum.inr.inj q)
  rw [decide_eq_false h,decide_eq_false e]
theorem key_lr (a:Int) (b:Str):decide ((Sum.inl a:Key) = Sum.inr b) = false:=decide_eq_false (fun q=>nomatch q)
theorem key_rl (a:Str) (b:Int):decide ((Sum.inr a:Key) = Sum.inl b) = false:=decide_eq_false (fun q=>nomatch q)
def mixKind (prog:Program) (w:World):PySem.KeyKind prog w Key where
 is:=keyIs
 hash:=keyH w
 inj:=fun v a b ha hb=>by
  rcases keyIs_shape ha with ⟨i,t,rfl,rfl⟩ | ⟨x,t,rfl,rfl⟩
  ·rcases keyIs_shape hb with ⟨j,u,rfl,e⟩ | ⟨y,u,rfl,e⟩
   ·injection e with e1 _;rw [e1]
   ·exact nomatch e
  ·rcases keyIs_shape hb with ⟨j,u,rfl,e⟩ | ⟨y,u,rfl,e⟩
   ·exact nomatch e
   ·injection e with e1 _;rw [e1]
 byValue:=fun k v h=>by
  rcases keyIs_shape h with ⟨i,t,rfl,rfl⟩ | ⟨x,t,rfl,rfl⟩ <;> rfl
 pyHash:=fun hv h=>by
  rcases keyIs_shape hv with ⟨i,t,rfl,rfl⟩ | ⟨x,t,rfl,rfl⟩
  ·exact wpAny_pyHash_int h
  ·exact wpAny_pyHash_str h
 eqBool:=fun hu hv h=>by
  rcases keyIs_shape hu with ⟨i,t,rfl,rfl⟩ | ⟨x,t,rfl,rfl⟩
  ·rcases keyIs_shape hv with ⟨j,u,rfl,rfl⟩ | ⟨y,u,rfl,rfl⟩
   ·rw [key_ll] at h;exact wpAny_eqBool_int h
   ·rw [key_lr] at h;exact SeqAt.EqAt.int_str i t y u _ _ _ _ h
  ·rcases keyIs_shape hv with ⟨j,u,rfl,rfl⟩ | ⟨y,u,rfl,rfl⟩
   ·rw [key_rl] at h;exact SeqAt.EqAt.str_int x t j u _ _ _ _ h
   ·rw [key_rr] at h;exact wpAny_eqBool_str h
 «strs»:=fun k x t v h=>by
  rcases keyIs_shape h with ⟨i,u,rfl,e⟩ | ⟨y,u,rfl,e⟩
  ·exact nomatch e
  ·injection e with e1 _
   subst e1
   cases v <;> rfl
end L2
namespace L2
open PySem PySem.Spec PyProof.Rows
inductive V where
 | non | bl (b:Bool) | int (i:Int) | str (x:Str) | byt (b:Array UInt8) | flt (b:UInt64) | ref (a:Addr) | ty (n:String)
 deriving DecidableEq
def RelV:V → Value → Prop
 | .non,u=>u = Value.none
 | .bl b,u=>u = Value.bool b
 | .int i,u=>∃ t,u = Value.int i t
 | .str x,u=>∃ t,u = Value.str x t
 | .byt b,u=>∃ t,u = Value.bytes b t
 | .flt b,u=>∃ t,u = Value.float b t
 | .ref a,u=>u = Value.ref a
 | .ty n,u=>u = Value.type n
abbrev Vals:List V → List Value → Prop:=Paired RelV
theorem Vals.length {xs:List V} {us:List Value} (r:Vals xs us):xs.length = us.length:=Paired.length r
theorem Vals.get:∀ {xs:List V} {us:List Value} {i:Nat} {x:V},Vals xs us → xs[i]? = some x → ∃ u,us[i]? = some u ∧ RelV x u
 | _,_,_,_,.nil,e=>by simp at e
 | _,_,0,_,.cons r _,e=>by simp at e;subst e;exact ⟨_,rfl,r⟩
 | _,_,i + 1,x,.cons _ t,e=>by
  obtain ⟨u,h1,h2⟩:=Vals.get (i:=i) (x:=x) t (by simpa using e)
  exact ⟨u,by simpa using h1,h2⟩
theorem Vals.append:∀ {xs ys:List V} {us ws:List Value},Vals xs us → Vals ys ws → Vals (xs ++ ys) (us ++ ws)
 | _,_,_,_,.nil,s=>s
 | _,_,_,_,.cons r t,s=>.cons r (Vals.append t s)
theorem Vals.take:∀ {xs:List V} {us:List Value} (n:Nat),Vals xs us → Vals (xs.take n) (us.take n)
 | _,_,0,_=>.nil
 | _,_,_ + 1,.nil=>.nil
 | _,_,n + 1,.cons r t=>.cons r (Vals.take n t)
theorem Vals.drop:∀ {xs:List V} {us:List Value} (n:Nat),Vals xs us → Vals (xs.drop n) (us.drop n)
 | _,_,0,r=>r
 | _,_,_ + 1,.nil=>.nil
 | _,_,n + 1,.cons _ t=>Vals.drop n t
def RelO:Option V → Option Value → Prop
 | some v,some u=>RelV v u
 | none,none=>True
 | _,_=>False
def KV {κ:Type}:List (κ × V) → List (κ × Value) → Prop:=Paired fun (p:κ × V) (q:κ × Value)=>p.1 = q.1 ∧ RelV p.2 q.2
def kV:Key → V
 | .inl i=>.int i
 | .inr x=>.str x
inductive HO where
 | lst (xs:List V)
 | tup (xs:List V)
 | dK (kvs:List (Key × V)) | dT (kvs:List (List Key × V))
 | set (S:Int → Bool) (n:Nat)
 | ins (C dx:Addr) (fs:List (Str × V))
 | own (x:Addr)
 | xd (fs:List (Str × V))
 | met (f x:Addr)
 | rng (lo hi:Int)
 | frz (o:Obj) (u:HO)
 | tbl (ps:Array Value)
 | ext (φ:Heap → Prop)
abbrev Hp:=Addr → Option HO
def upd (H:Hp) (a:Addr) (o:HO):Hp:=fun b=>if b = a then some o else H b
theorem upd_same {H:Hp} {a:Addr} {o:HO}:upd H a o a = some o:=by unfold upd;rw [if_pos rfl]
theorem upd_ne {H:Hp} {a b:Addr} {o:HO} (h:b ≠ a):upd H a o b = H b:=by unfold upd;rw [if_neg h]
theorem ne_of_none {H:Hp} {a b:Addr} {o:HO} (h:H a = some o) (h':H b = none):a ≠ b:=by
 intro e;subst e;rw [h] at h';cases h'
section
variable (P:Program) (w:World)
def ObjOk (H:Hp) (h:Heap) (a:Addr):HO → Prop
 | .lst xs=>xs.length ≤ sizeLine ∧ ∃ (its:List Value) (n:Nat),Vals xs its ∧ h.get? a = some { cls:=.type "list", data:=.seq its.toArray n }
 | .tup xs=>xs.length ≤ sizeLine ∧ ∃ its:List Value,Vals xs its ∧ IsTup h a its.toArray
 | .dK kvs=>kvs.length ≤ sizeLine ∧ (a == sysModules) = false ∧ ∃ vs,KV kvs vs ∧ h.DictOf (mixKind P w) a vs
 | .dT kvs=>kvs.length ≤ sizeLine ∧ (a == sysModules) = false ∧ ∃ xs:List (List Key × Addr × Value),
   Paired (fun (p:List Key × V) (q:List Key × Addr × Value)=>p.1 = q.1 ∧ H q.2.1 = some (.tup (p.1.map kV)) ∧ RelV p.2 q.2.2) kvs xs ∧
   ∃ o es ep,h.get? a = some o ∧ o.ExactDict ∧ o.data = .dict es ep ∧ es.toList = xs.map (entryOfKey (tupleKind (mixKind P w))) ∧ (xs.map (·.1)).Nodup
 | .set S n=>h.SetOf (intKind P w) a S n
 | .ins C dx fs=>H dx = some (.own a) ∧ fs.length ≤ 1000 ∧ dx ≠ a ∧ h.get? a = some (PySem.W.instObj C dx) ∧
   ∃ mA,h.Ns1 dx mA ∧ (∀ f,RelO (fs.lookup f) (mA f)) ∧ PySem.Within mA (fs.map (·.1))
 | .own _=>∃ o,h.get? a = some o
 | .xd fs=>∃ mA,h.Ns1 a mA ∧ ∀ f,RelO (fs.lookup f) (mA f)
 | .rng lo hi=>∃ t u v,h.get? a = some { cls:=.type "range", data:=.fields #[.int lo t,.int hi u,.int 1 v] }
 | .frz o u=>h.get? a = some o ∧ ObjOk H h a u
 | .tbl ps=>h.get? a = some { cls:=.none,data:=.fields ps }
 | .met f x=>h.get? a = some (PySem.W.methodObj (.ref f) (.ref x))
 | .ext φ=>φ h ∧ (∃ o,h.get? a = some o) ∧ ∀ h1 h2:Heap,φ h1 → (∀ o,h1.get? a = some o → h2.get? a = some o) → φ h2
def HOk (H:Hp) (h:Heap):Prop:=∀ a o,H a = some o → ObjOk P w H h a o
end
section
variable {P:Program} {w:World} {H H':Hp} {h h':Heap} {a:Addr} {o:HO}
theorem ObjOk.lt (x:ObjOk P w H h a o):a < h.objs.size:=by
 cases o with
 | lst xs=>obtain ⟨_,_,_,_,e⟩:=x;exact Heap.lt_size e
 | tup xs=>obtain ⟨_,_,_,p⟩:=x;exact p.lt
 | dK kvs=>obtain ⟨_,_,_,_,o,_,_,e,_⟩:=x;exact Heap.lt_size e
 | dT kvs=>obtain ⟨_,_,_,_,o,_,_,e,_⟩:=x;exact Heap.lt_size e
 | set S n=>obtain ⟨o,_,_,_,e,_⟩:=x;exact Heap.lt_size e
 | ins C dx fs=>obtain ⟨_,_,_,e,_⟩:=x;exact Heap.lt_size e
 | own y=>obtain ⟨_,e⟩:=x;exact Heap.lt_size e
 | xd fs=>obtain ⟨_,⟨_,_,_,e,_⟩,_⟩:=x;exact Heap.lt_size e
 | rng lo hi=>obtain ⟨_,_,_,e⟩:=x;exact Heap.lt_size e
 | frz ob u=>obtain ⟨e,_⟩:=x;exact Heap.lt_size e
 | tbl ps=>exact Heap.lt_size (show h.get? a = some _ from x)
 | met f y=>exact Heap.lt_size (show h.get? a = some _ from x)
 | ext φ=>obtain ⟨_,⟨_,e⟩,_⟩:=x;exact Heap.lt_size e
theorem Paired.mapP {α β:Type} {F G:α → β → Prop}:∀ {l₁:List α} {l₂:List β},Paired F l₁ l₂ → (∀ a b,F a b → G a b) → Paired G l₁ l₂
 | _,_,.nil,_=>.nil
 | _,_,.cons r t,f=>.cons (f _ _ r) (Paired.mapP t f)
theorem ObjOk.stay (x:ObjOk P w H h a o) (k:∀ b u,(b = a ∨ H b = some (.own a)) → h.get? b = some u → h'.get? b = some u)
  (ho:∀ b,H b = some (.own a) → H' b = some (.own a)) (ht:∀ b xs,H b = some (.tup xs) → H' b = some (.tup xs)):ObjOk P w H' h' a o:=by
 induction o with
 | lst xs=>obtain ⟨z,its,n,r,e⟩:=x;exact ⟨z,its,n,r,k _ _ (.inl rfl) e⟩
 | tup xs=>obtain ⟨z,its,r,ob,e,c⟩:=x;exact ⟨z,its,r,ob,k _ _ (.inl rfl) e,c⟩
 | dK kvs=>obtain ⟨z,y,vs,r,ob,es,ep,e,c⟩:=x;exact ⟨z,y,vs,r,ob,es,ep,k _ _ (.inl rfl) e,c⟩
 | dT kvs =>
  obtain ⟨z,y,xs,r,ob,es,ep,e,c⟩:=x
  exact ⟨z,y,xs,Paired.mapP r fun p q z=>⟨z.1,ht _ _ z.2.1,z.2.2⟩,ob,es,ep,k _ _ (.inl rfl) e,c⟩
 | set S n=>obtain ⟨ob,es,ep,t,e,c⟩:=x;exact ⟨ob,es,ep,t,k _ _ (.inl rfl) e,c⟩
 | ins C dx fs =>
  obtain ⟨d,z,ne,e,mA,⟨od,es,ep,e2,c⟩,r⟩:=x
  exact ⟨ho _ d,z,ne,k _ _ (.inl rfl) e,mA,⟨od,es,ep,k _ _ (.inr d) e2,c⟩,r⟩
 | own y=>obtain ⟨ob,e⟩:=x;exact ⟨ob,k _ _ (.inl rfl) e⟩
 | xd fs=>obtain ⟨mA,⟨od,es,ep,e,c⟩,r⟩:=x;exact ⟨mA,⟨od,es,ep,k _ _ (.inl rfl) e,c⟩,r⟩
 | rng lo hi=>obtain ⟨t,u,v,e⟩:=x;exact ⟨t,u,v,k _ _ (.inl rfl) e⟩
 | frz ob u ih=>obtain ⟨e,q⟩:=x;exact ⟨k _ _ (.inl rfl) e,ih q⟩
 | tbl ps =>
  have e:h.get? a = some { cls:=.none,data:=.fields ps }:=x
  show h'.get? a = some { cls:=.none,data:=.fields ps }
  exact k a _ (.inl rfl) e
 | met f y =>
  have e:h.get? a = some (PySem.W.methodObj (.ref f) (.ref y)):=x
  show h'.get? a = some (PySem.W.methodObj (.ref f) (.ref y))
  exact k a _ (.inl rfl) e
 | ext φ=>obtain ⟨p,⟨o,e⟩,st⟩:=x;exact ⟨st _ _ p fun o q=>k _ _ (.inl rfl) q,⟨o,k _ _ (.inl rfl) e⟩,st⟩
theorem HOk.lt (x:HOk P w H h) (e:H a = some o):a < h.objs.size:=(x a o e).lt
theorem HOk.fresh (x:HOk P w H h) (e:h.objs.size ≤ a):H a = none:=by
 cases q:H a with
 | none=>rfl
 | some u=>exact absurd (Nat.lt_of_lt_of_le (x.lt q) e) (Nat.lt_irrefl _)
theorem HOk.kept (x:HOk P w H h) (k:∀ b u,h.get? b = some u → h'.get? b = some u):HOk P w H h':=fun a o e =>
 (x a o e).stay (fun b u _ q=>k b u q) (fun _ q=>q) fun _ _ q=>q
theorem HOk.laid (x:HOk P w H h) (k:∀ b u,h.get? b = some u → h'.get? b = some u) (hp:h.objs.size ≤ a) (new:ObjOk P w (upd H a o) h' a o):HOk P w (upd H a o) h':=fun b u e=>by
 have hn:=x.fresh hp
 by_cases hb:b = a
 ·subst hb;rw [upd_same] at e;cases e;exact new
 ·rw [upd_ne hb] at e
  exact (x b u e).stay (fun c v _ q=>k c v q) (fun c q=>by rw [upd_ne (ne_of_none q hn)];exact q) fun c xs q=>by rw [upd_ne (ne_of_none q hn)];exact q
end
def Rd (H:Hp) (a:Addr) (u:HO):Prop:=H a = some u ∨ ∃ o,H a = some (.frz o u)
theorem Rd.ok {P:Program} {w:World} {H:Hp} {h:Heap} {a:Addr} {u:HO} (r:Rd H a u) (x:HOk P w H h):ObjOk P w H h a u:=by
 rcases r with r | ⟨o,r⟩
 ·exact x a u r
 ·obtain ⟨_,q⟩:=x a _ r
  exact q
def Mut:Option HO → Prop
 | some (.lst _)=>True
 | some (.dK _)=>True
 | some (.dT _)=>True
 | some (.set _ _)=>True
 | some (.ins _ _ _)=>True
 | some (.ext _)=>True
 | _=>False
section
variable {P:Program} {w:World} {H:Hp} {h h':Heap} {x e:Addr} {o':HO}
theorem HOk.write (ok:HOk P w H h) (mu:Mut (H x)) (he:e = x ∨ H e = some (.own x)) (k:∀ b u,b ≠ e → h.get? b = some u → h'.get? b = some u) (heo:∃ u,h'.get? e = some u)
  (new:ObjOk P w (upd H x o') h' x o'):HOk P w (upd H x o') h':=fun b u q=>by
 have nown:∀ c y,H c = some (.own y) → c ≠ x:=fun c y r z=>by subst z;rw [r] at mu;exact mu
 have ntup:∀ c xs,H c = some (.tup xs) → c ≠ x:=fun c xs r z=>by subst z;rw [r] at mu;exact mu
 by_cases hb:b = x
 ·subst hb;rw [upd_same] at q;cases q;exact new
 ·rw [upd_ne hb] at q
  by_cases hbe:b = e
  ·have q':H b = some (.own x):=by
    rcases he with z | z
    ·exact absurd (hbe.trans z) hb
    ·rw [hbe];exact z
   rw [q] at q';cases q'
   obtain ⟨v,hv⟩:=heo
   exact ⟨v,by rw [hbe];exact hv⟩
  ·refine (ok b u q).stay (fun c v hc r=>k c v ?_ r) (fun c r=>by rw [upd_ne (nown c b r)];exact r) fun c xs r=>by rw [upd_ne (ntup c xs r)];exact r
   rcases hc with rfl | hc
   ·exact hbe
   ·rintro rfl
    rcases he with z | z
    ·exact nown c b hc z
    ·rw [hc] at z;cases z;exact hb rfl
end
structure Un (fs ex:List Addr) (H H':Hp) (h h':Heap):Prop where
 keep:∀ b o,h.get? b = some o → H b = none → b ∉ fs → b ∉ ex → h'.get? b = some o
 slot:∀ b o,h.get? b = some o → H b = none → b ∈ fs → b ∉ ex → ∃ sl,h'.get? b = some { o with slots:=sl }
 free:∀ b o,h.get? b = some o → H b = none → b ∉ ex → H' b = none
 there:∀ b o,h.get? b = some o → b ∉ ex → ∃ o',h'.get? b = some o'
 tups:∀ b xs,H b = some (.tup xs) → H' b = some (.tup xs)
 frzs:∀ b o u,H b = some (.frz o u) → H' b = some (.frz o u)
 tbls:∀ b ps,H b = some (.tbl ps) → ∃ more,H' b = some (.tbl (ps ++ more))
section
variable {fs fs' ex ex':List Addr} {H H1 H2:Hp} {h h1 h2 h':Heap} {a x e:Addr} {o:HO}
theorem Un.any (u:Un fs ex H H1 h h1) {b:Addr} {ob:Obj} (q:h.get? b = some ob) (n:H b = none) (hx:b ∉ ex):∃ sl,h1.get? b = some { ob with slots:=sl }:=by
 by_cases hb:b ∈ fs
 ·exact u.slot b ob q n hb hx
 ·exact ⟨ob.slots,u.keep b ob q n hb hx⟩
theorem Un.trans (a:Un fs ex H H1 h h1) (b:Un fs ex H1 H2 h1 h2):Un fs ex H H2 h h2 where
 keep:=fun c ob q n hc hx=>b.keep c ob (a.keep c ob q n hc hx) (a.free c ob q n hx) hc hx
 slot:=fun c ob q n hc hx=>by
  obtain ⟨sl,e1⟩:=a.slot c ob q n hc hx
  obtain ⟨sl',e2⟩:=b.slot c _ e1 (a.free c ob q n hx) hc hx
  exact ⟨sl',e2⟩
 free:=fun c ob q n hx=>by
  obtain ⟨o',e1⟩:=a.there c ob q hx
  exact b.free c o' e1 (a.free c ob q n hx) hx
 there:=fun c ob q hx=>by
  obtain ⟨o',e1⟩:=a.there c ob q hx
  exact b.there c o' e1 hx
 tups:=fun c xs q=>b.tups c xs (a.tups c xs q)
 frzs:=fun c ob xs q=>b.frzs c ob xs (a.frzs c ob xs q)
 tbls:=fun c ps q=>by
  obtain ⟨m1,e1⟩:=a.tbls c ps q
  obtain ⟨m2,e2⟩:=b.tbls c _ e1
  exact ⟨m1 ++ m2,by rw [e2,Array.append_assoc]⟩
theorem Un.kept (k:∀ b u,h.get? b = some u → h'.get? b = some u):Un fs ex H H h h' :=
 ⟨fun b ob q _ _ _=>k b ob q,fun b ob q _ _ _=>⟨ob.slots,k b ob q⟩,fun _ _ _ n _=>n,fun b ob q _=>⟨ob,k b ob q⟩,fun _ _ q=>q,fun _ _ _ q=>q,fun _ ps q=>⟨#[],by rw [q];simp⟩⟩
theorem Un.refl:Un fs ex H H h h:=Un.kept fun _ _ q=>q
theorem Un.laid (k:∀ b u,h.get? b = some u → h'.get? b = some u) (hp:h.objs.size ≤ a) (hn:H a = none):Un fs ex H (upd H a o) h h' where
 keep:=fun b u q _ _ _=>k b u q
 slot:=fun b u q _ _ _=>⟨u.slots,k b u q⟩
 free:=fun b u q n _=>by rw [upd_ne (Nat.ne_of_lt (Nat.lt_of_lt_of_le (Heap.lt_size q) hp))];exact n
 there:=fun b u q _=>⟨u,k b u q⟩
 tups:=fun b xs q=>by rw [upd_ne (ne_of_none q hn)];exact q
 frzs:=fun b u xs q=>by rw [upd_ne (ne_of_none q hn)];exact q
 tbls:=fun b ps q=>⟨#[],by rw [upd_ne (ne_of_none q hn),q];simp⟩
theorem Un.write (mu:Mut (H x)) (he:e = x ∨ H e = some (.own x)) (k:∀ b u,b ≠ e → h.get? b = some u → h'.get? b = some u) (heo:∃ u,h'.get? e = some u):Un fs ex H (upd H x o) h h':=by
 have hx:∀ b,H b = none → b ≠ x:=fun b n z=>by subst z;rw [n] at mu;exact mu
 have hb:∀ b,H b = none → b ≠ e:=fun b n z=>by
  subst z
  rcases he with r | r
  ·exact hx b n r
  ·rw [n] at r;cases r
 have hm:∀ b u,H b = some u → ¬ Mut (some u) → b ≠ x:=fun b u q nm z=>by subst z;rw [q] at mu;exact nm mu
 refine ⟨fun b u q n _ _=>k b u (hb b n) q,fun b u q n _ _=>⟨u.slots,k b u (hb b n) q⟩,fun b u q n _=>by rw [upd_ne (hx b n)];exact n,fun b u q _=>?_,
  fun b xs q=>by rw [upd_ne (hm b _ q fun z=>z)];exact q,fun b u xs q=>by rw [upd_ne (hm b _ q fun z=>z)];exact q,fun b ps q=>⟨#[],by rw [upd_ne (hm b _ q fun z=>z),q];simp⟩⟩
 by_cases hbe:b = e
 ·subst hbe;exact heo
 ·exact ⟨u,k b u hbe q⟩
theorem Un.mono (u:Un fs ex H H1 h h1) (hs:∀ b ∈ fs,b ∈ fs') (hx:∀ b ∈ ex,b ∈ ex'):Un fs' ex' H H1 h h1 :=
 ⟨fun b ob q n hb he=>u.keep b ob q n (fun z=>hb (hs b z)) fun z=>he (hx b z),fun _ _ q n _ he=>u.any q n fun z=>he (hx _ z),fun b ob q n he=>u.free b ob q n fun z=>he (hx b z),fun b ob q he=>u.there b ob q fun z=>he (hx b z),u.tups,u.frzs,u.tbls⟩
end
def trk (h:Heap) (H:Hp):List Addr:=(List.range h.objs.size).filter fun a=>(H a).isSome
def hidT (h:Heap) (H:Hp):Heap:=PySem.W.hideAll h (trk h H)
theorem hidT_size (h:Heap) (H:Hp):(hidT h H).objs.size = h.objs.size:=PySem.W.hideAll_size _ _
theorem hidT_get {h:Heap} {H:Hp} {b:Addr} {o:Obj} (e:h.get? b = some o) (n:H b = none):(hidT h H).get? b = some o :=
 PySem.W.hideAll_get _ e fun hm=>by
  have q:(H b).isSome = true:=(List.mem_filter.mp hm).2
  rw [n] at q;simp at q
theorem of_hidT {h:Heap} {H:Hp} {b:Addr} {o:Obj} (e:(hidT h H).get? b = some o):h.get? b = some o ∧ H b = none:=by
 have e':h.get? b = some o:=PySem.W.of_hideAll (trk h H) e
 refine ⟨e',?_⟩
 cases q:H b with
 | none=>rfl
 | some x =>
  have hm:b ∈ trk h H:=List.mem_filter.mpr ⟨List.mem_range.mpr (Heap.lt_size e'),by simp [q]⟩
  have z:(hidT h H).get? b = none:=PySem.W.hideAll_none (trk h H) hm
  rw [z] at e;cases e
end L2
namespace L2
open PySem PySem.Spec PyProof.Rows
structure Mod (K:PySem.W.Frag) (mg:Str → Option Value) (base:Heap):Prop where
 kin:K.In base
 glob:base.Ns mainGlobals mg
 blt:∃ mb,base.Ns builtinsNs mb ∧ ∀ x:Str,x ≠ "__name__" → mb x = bootBuiltins x
 nolimit:base.NoLimit
structure Cx where
 prog:Program
 w:World
 K:PySem.W.Frag
 mg:Str → Option Value
 base:Heap
 A:Around
 N:List Str
 s₀:Shared
 H₀:Hp
 env:Env
 outer:List Env
 stack:List Env
 ex:List Addr
 fn:Str → Bool
 calm:Bool
 pn:List (Addr × Obj)
 xe:Value → Shared → Prop
def frs (l:List Env):List Addr:=l.filterMap (·.frame)
abbrev Cx.fs (X:Cx):List Addr:=frs X.outer
def Vis (sc:Scope) (x:Str):Prop:=sc.names.lookup x = some .local ∨ sc.names.lookup x = some .cell ∨ sc.names.lookup x = some .free
def Loc (sc:Scope) (x:Str):Prop:=sc.names.lookup x = some .local ∨ sc.names.lookup x = some .cell
def Look (env:Env) (h:Heap) (m:Str → Option Value) (x:Str) (u:Value):Prop :=
 (env.kindOf x = some .local ∧ m x = some u) ∨ ((env.kindOf x = some .cell ∨ env.kindOf x = some .free) ∧ ∃ c,env.cells.lookup x = some c ∧ h.IsCell c (some u))
structure Cx.Ok (X:Cx):Prop where
 mod:Mod X.K X.mg X.base
 kind:X.env.scope.kind = .function
 glob:X.env.globals = mainGlobals
 blt:X.env.builtins = builtinsNs
 above:X.s₀.heap.objs.size ≤ X.env.locals
 inj:∀ x y c,X.env.cells.lookup x = some c → X.env.cells.lookup y = some c → x = y
 has:∀ x,(X.env.kindOf x = some .cell ∨ X.env.kindOf x = some .free) → ∃ c,X.env.cells.lookup x = some c
 cab:∀ x c,X.fn x = true → X.env.cells.lookup x = some c → X.s₀.heap.objs.size ≤ c
 hd:X.calm = true → X.A.handled = none
 frames:X.A.frames = some X.stack
 stk:X.stack = X.outer ∨ (X.stack = X.env :: X.outer ∧ X.env.frame = some X.env.locals)
 exf:∀ b ∈ X.ex,b ≠ X.env.locals ∧ ∀ x c,X.env.cells.lookup x = some c → c ≠ b
 bs:∀ b o,X.base.get? b = some o → X.s₀.heap.get? b = some o ∧ X.H₀ b = none
 bsz:X.base.objs.size ≤ X.s₀.heap.objs.size
 noex:∀ b o,X.base.get? b = some o → b ∉ X.ex
 exfs:∀ b ∈ X.ex,b ∉ X.fs
 funs:X.s₀.heap.FunFrames X.base X.outer
 frf:∀ b ∈ X.fs,X.H₀ b = none
structure Inv (X:Cx) (pins:List (Addr × Obj)) (σ:List (Option V)) (H:Hp) (s:Shared):Prop where
 ok:X.Ok
 os:s.os = X.s₀.os
 bare:AllBare s.gens
 base:Un X.fs X.ex X.H₀ H X.s₀.heap s.heap
 loc:∃ m,s.heap.Ns X.env.locals m ∧ ∀ (i:Nat) (x:Str) (v:V),X.N[i]? = some x → σ[i]? = some (some v) → Vis X.env.scope x → ∃ u,RelV v u ∧ Look X.env s.heap m x u
 cell:∀ x c,X.env.cells.lookup x = some c → ∃ v,s.heap.IsCell c v
 free:H X.env.locals = none
 freeC:∀ x c,X.env.cells.lookup x = some c → H c = none
 pin:∀ p ∈ X.pn ++ pins,s.heap.get? p.1 = some p.2 ∧ H p.1 = none ∧ p.1 ≠ X.env.locals ∧ p.1 ∉ X.fs ∧ ∀ v,p.2.data ≠ .cell v
 hok:HOk X.prog X.w H s.heap
 len:σ.length = X.N.length
section
variable {X:Cx} {pins:List (Addr × Obj)} {σ:List (Option V)} {H H':Hp} {s:Shared} {h':Heap}
theorem Cx.Ok.nofr (ok:X.Ok) {b:Addr} {o:Obj} (e:X.base.get? b = some o):b ∉ X.fs:=fun hb=>by
 have:=(ok.funs.mem hb).1
 rw [e] at this;cases this
theorem Inv.bs (I:Inv X pins σ H s):∀ b o,X.base.get? b = some o → s.heap.get? b = some o ∧ H b = none:=fun b o e =>
 ⟨I.base.keep b o (I.ok.bs b o e).1 (I.ok.bs b o e).2 (I.ok.nofr e) (I.ok.noex b o e),I.base.free b o (I.ok.bs b o e).1 (I.ok.bs b o e).2 (I.ok.noex b o e)⟩
theorem Inv.bk (I:Inv X pins σ H s):∀ b o,X.base.get? b = some o → s.heap.get? b = some o:=fun b o e=>(I.bs b o e).1
theorem Inv.mod (I:Inv X pins σ H s):Mod X.K X.mg X.base:=I.ok.mod
theorem Inv.kIn (I:Inv X pins σ H s):X.K.In s.heap:=I.ok.mod.kin.keeps I.bk
theorem Inv.lt (I:Inv X pins σ H s):X.env.locals < s.heap.objs.size:=let ⟨_,hn,_⟩:=I.loc;hn.lt
theorem Inv.sz (I:Inv X pins σ H s):X.s₀.heap.objs.size ≤ s.heap.objs.size:=Nat.le_trans I.ok.above (Nat.le_of_lt I.lt)
theorem Inv.nofs (I:Inv X pins σ H s) {a:Addr} (h:s.heap.objs.size ≤ a):a ∉ X.fs:=fun hb=>by
 obtain ⟨_,o,ho,_⟩:=I.ok.funs.mem hb
 exact absurd (Nat.lt_of_lt_of_le (Heap.lt_size ho) (Nat.le_trans I.sz h)) (Nat.lt_irrefl _)
theorem Inv.cne (I:Inv X pins σ H s):∀ x c,X.env.cells.lookup x = some c → c ≠ X.env.locals:=fun x c e z=>by
 obtain ⟨v,o,ho,hd⟩:=I.cell x c e
 obtain ⟨m,⟨o',es,ep,ho',hd',_⟩,_⟩:=I.loc
 rw [z,ho'] at ho;cases ho;rw [hd'] at hd;cases hd
theorem Inv.funs (I:Inv X pins σ H s):s.heap.FunFrames X.base X.outer:=by
 have all:∀ (l:List Env),(∀ b ∈ frs l,b ∈ X.fs) → X.s₀.heap.FunFrames X.base l → s.heap.FunFrames X.base l:=by
  intro l
  induction l with
  | nil=>intro _ _;trivial
  | cons env r ih =>
   intro hs hl
   obtain ⟨hk,⟨L,o,hf,hn,ho,hd⟩,hr⟩:=hl
   have hL:L ∈ X.fs:=hs L (by unfold frs;rw [List.filterMap_cons,hf];exact List.mem_cons_self)
   obtain ⟨sl,e⟩:=I.base.slot L o ho (I.ok.frf L hL) hL fun z=>I.ok.exfs L z hL
   exact ⟨hk,⟨L,_,hf,hn,e,hd⟩,ih (fun b hb=>hs b (by unfold frs;rw [List.filterMap_cons,hf];exact List.mem_cons_of_mem _ hb)) hr⟩
 exact all X.outer (fun _ hb=>hb) I.ok.funs
theorem Inv.stack (I:Inv X pins σ H s):s.heap.FunFrames X.base X.stack:=by
 rcases I.ok.stk with e | ⟨e,hf⟩
 ·rw [e];exact I.funs
 ·rw [e]
  obtain ⟨m,hn,_⟩:=I.loc
  refine .cons (by rw [I.ok.kind];decide) hf hn ?_ I.funs
  exact Heap.get?_none_of_le (Nat.le_trans I.ok.bsz I.ok.above)
theorem Inv.stkSub (I:Inv X pins σ H s):∀ b ∈ frs X.stack,b ∈ X.env.locals :: X.fs:=fun b hb=>by
 rcases I.ok.stk with e | ⟨e,hf⟩
 ·rw [e] at hb;exact List.mem_cons_of_mem _ hb
 ·rw [e] at hb
  unfold frs at hb
  rw [List.filterMap_cons,hf] at hb
  exact hb
theorem Inv.stkFree (I:Inv X pins σ H s):∀ b ∈ frs X.stack,H b = none:=fun b hb=>by
 rcases List.mem_cons.mp (I.stkSub b hb) with e | hb
 ·rw [e];exact I.free
 ·obtain ⟨_,o,ho,_⟩:=I.ok.funs.mem hb
  exact I.base.free b o ho (I.ok.frf b hb) fun z=>I.ok.exfs b z hb
theorem Inv.step {g':Array GenState} {t':Nat} {d':Drawn} {ch:List Addr} (I:Inv X pins σ H s)
  (hch:∀ b ∈ ch,(b ∈ X.ex ∨ X.s₀.heap.objs.size ≤ b) ∧ b ≠ X.env.locals ∧ (∀ x c,X.env.cells.lookup x = some c → c ≠ b) ∧ ∀ p ∈ X.pn ++ pins,p.1 ≠ b)
  (keep:∀ b o,b ≠ X.env.locals → b ∉ X.fs → b ∉ ch → s.heap.get? b = some o → H b = none → h'.get? b = some o)
  (slot:∀ b o,b ≠ X.env.locals → b ∈ X.fs → b ∉ ch → s.heap.get? b = some o → H b = none → ∃ sl,h'.get? b = some { o with slots:=sl }) (free:∀ b o,b ∉ ch → s.heap.get? b = some o → H b = none → H' b = none)
  (there:∀ b o,b ∉ ch → s.heap.get? b = some o → ∃ o',h'.get? b = some o')
  (tups:∀ b xs,H b = some (.tup xs) → H' b = some (.tup xs)) (frzs:∀ b o u,H b = some (.frz o u) → H' b = some (.frz o u)) (tbls:∀ b ps,H b = some (.tbl ps) → ∃ more,H' b = some (.tbl (ps ++ more)))
  (ns:∀ m,s.heap.Ns X.env.locals m → h'.Ns X.env.locals m) (hok:HOk X.prog X.w H' h') (hg:AllBare g') :
  Inv X pins σ H' { s with heap:=h',gens:=g',drawn:=d',toks:=t' }:=by
 have neL:∀ b o,X.s₀.heap.get? b = some o → b ≠ X.env.locals:=fun b o e=>Nat.ne_of_lt (Nat.lt_of_lt_of_le (Heap.lt_size e) I.ok.above)
 have neC:∀ b o,X.s₀.heap.get? b = some o → b ∉ X.ex → b ∉ ch:=fun b o e hx hb=>by
  rcases (hch b hb).1 with z | z
  ·exact hx z
  ·exact absurd (Nat.lt_of_lt_of_le (Heap.lt_size e) z) (Nat.lt_irrefl _)
 have cellK:∀ x c,X.env.cells.lookup x = some c → ∀ v,s.heap.IsCell c v → h'.IsCell c v:=fun x c e v ⟨o,ho,hd⟩=>by
  have nch:c ∉ ch:=fun z=>(hch c z).2.2.1 x c e rfl
  by_cases hc:c ∈ X.fs
  ·obtain ⟨sl,q⟩:=slot c o (I.cne x c e) hc nch ho (I.freeC x c e)
   exact ⟨_,q,hd⟩
  ·exact ⟨o,keep c o (I.cne x c e) hc nch ho (I.freeC x c e),hd⟩
 refine ⟨I.ok,I.os,hg,⟨fun b o e n hb hx=>?_,fun b o e n hb hx=>?_,fun b o e n hx=>?_,fun b o e hx=>?_,fun b xs e=>tups b xs (I.base.tups b xs e),fun b o xs e=>frzs b o xs (I.base.frzs b o xs e),fun b ps e=>?_⟩,?_,fun x c e=>?_,?_,fun x c e=>?_,fun p hp=>?_,hok,I.len⟩
 ·exact keep b o (neL b o e) hb (neC b o e hx) (I.base.keep b o e n hb hx) (I.base.free b o e n hx)
 ·obtain ⟨sl,e1⟩:=I.base.slot b o e n hb hx
  obtain ⟨sl',e2⟩:=slot b _ (neL b o e) hb (neC b o e hx) e1 (I.base.free b o e n hx)
  exact ⟨sl',e2⟩
 ·obtain ⟨o',e1⟩:=I.base.there b o e hx
  exact free b o' (neC b o e hx) e1 (I.base.free b o e n hx)
 ·obtain ⟨o',e1⟩:=I.base.there b o e hx
  exact there b o' (neC b o e hx) e1
 ·obtain ⟨m1,e1⟩:=I.base.tbls b ps e
  obtain ⟨m2,e2⟩:=tbls b _ e1
  exact ⟨m1 ++ m2,by rw [e2,Array.append_assoc]⟩
 ·obtain ⟨m,hn,hl⟩:=I.loc
  refine ⟨m,ns m hn,fun i x v e1 e2 e3=>?_⟩
  obtain ⟨u,r,l⟩:=hl i x v e1 e2 e3
  refine ⟨u,r,?_⟩
  rcases l with l | ⟨k,c,e,z⟩
  ·exact .inl l
  ·exact .inr ⟨k,c,e,cellK x c e _ z⟩
 ·obtain ⟨v,z⟩:=I.cell x c e
  exact ⟨v,cellK x c e v z⟩
 ·obtain ⟨m,⟨o,_,_,ho,_⟩,_⟩:=I.loc
  exact free _ o (fun z=>(hch _ z).2.1 rfl) ho I.free
 ·obtain ⟨v,o,ho,hd⟩:=I.cell x c e
  exact free c o (fun z=>(hch c z).2.2.1 x c e rfl) ho (I.freeC x c e)
 ·obtain ⟨e,n,ne,nf,d⟩:=I.pin p hp
  have nch:p.1 ∉ ch:=fun z=>(hch p.1 z).2.2.2 p hp rfl
  exact ⟨keep p.1 p.2 ne nf nch e n,free p.1 p.2 nch e n,ne,nf,d⟩
theorem Inv.un {t':Nat} (I:Inv X pins σ H s) (u:Un X.fs [] H H' s.heap h') (hok:HOk X.prog X.w H' h'):Inv X pins σ H' { s with heap:=h',toks:=t' }:=by
 obtain ⟨m,⟨o,es,ep,ho,r⟩,_⟩:=id I.loc
 obtain ⟨sl,hL⟩:=u.any ho I.free (by simp)
 exact I.step (g':=s.gens) (d':=s.drawn) (ch:=[]) (fun _ z=>nomatch z) (fun b o _ hb _ e n=>u.keep b o e n hb (by simp)) (fun b o _ hb _ e n=>u.slot b o e n hb (by simp)) (fun b o _ e n=>u.free b o e n (by simp)) (fun b o _ e=>u.there b o e (by simp)) u.tups u.frzs u.tbls (fun m' hm=>by
  obtain ⟨o',es',ep',ho',r'⟩:=hm
  rw [ho] at ho';cases ho'
  exact ⟨_,es',ep',hL,r'⟩) hok I.bare
theorem Inv.call {g':Array GenState} {t':Nat} {d':Drawn} {ch:List Addr} (I:Inv X pins σ H s) (u:Un (frs X.stack) ch H H' s.heap h') (hok:HOk X.prog X.w H' h') (hg:AllBare g')
  (hch:∀ b ∈ ch,(b ∈ X.ex ∨ X.s₀.heap.objs.size ≤ b) ∧ b ≠ X.env.locals ∧ (∀ x c,X.env.cells.lookup x = some c → c ≠ b) ∧ ∀ p ∈ X.pn ++ pins,p.1 ≠ b) :
  Inv X pins σ H' { s with heap:=h',gens:=g',drawn:=d',toks:=t' }:=by
 obtain ⟨m,⟨o,es,ep,ho,r⟩,_⟩:=id I.loc
 obtain ⟨sl,hL⟩:=u.any ho I.free fun z=>(hch _ z).2.1 rfl
 exact I.step (ch:=ch) hch (fun b o hL hb hc e n=>u.keep b o e n (fun z=>(List.mem_cons.mp (I.stkSub b z)).elim hL hb) hc) (fun b o _ _ hc e n=>u.any e n hc) (fun b o hc e n=>u.free b o e n hc) (fun b o hc e=>u.there b o e hc) u.tups u.frzs u.tbls (fun m' hm=>by
  obtain ⟨o',es',ep',ho',r'⟩:=hm
  rw [ho] at ho';cases ho'
  exact ⟨_,es',ep',hL,r'⟩) hok hg
theorem Inv.turned {t':Nat} {it:Addr} (I:Inv X pins σ H s) (k:∀ b o,b ≠ it → s.heap.get? b = some o → h'.get? b = some o) (hn:H it = none) (hL:it ≠ X.env.locals)
  (h1:it ∈ X.ex ∨ X.s₀.heap.objs.size ≤ it) (h2:∀ x c,X.env.cells.lookup x = some c → c ≠ it) (h3:∀ p ∈ X.pn ++ pins,p.1 ≠ it):Inv X pins σ H { s with heap:=h',toks:=t' }:=by
 have nit:∀ b u,H b = some u → b ≠ it:=fun b u e z=>by rw [z,hn] at e;cases e
 refine I.step (g':=s.gens) (d':=s.drawn) (ch:=[it]) (fun b hb=>?_) (fun b o _ _ hc e _=>k b o (fun z=>hc (by simp [z])) e) (fun b o _ _ hc e _=>⟨o.slots,k b o (fun z=>hc (by simp [z])) e⟩) (fun _ _ _ _ n=>n)
  (fun b o hc e=>⟨o,k b o (fun z=>hc (by simp [z])) e⟩) (fun _ _ e=>e) (fun _ _ _ e=>e) (fun b ps e=>⟨#[],by rw [e];simp⟩) (fun m hm=>?_) (fun b u e=>?_) I.bare
 ·have e:b = it:=by simpa using hb
  subst e
  exact ⟨h1,hL,h2,h3⟩
 ·obtain ⟨o,es,ep,ho,r⟩:=hm
  exact ⟨o,es,ep,k _ o (Ne.symm hL) ho,r⟩
 ·refine (I.hok b u e).stay (fun c v hc q=>k c v ?_ q) (fun _ q=>q) fun _ _ q=>q
  rcases hc with z | z
  ·rw [z];exact nit b u e
  ·exact nit c _ z
theorem Inv.tok (I:Inv X pins σ H s) (t:Nat):Inv X pins σ H { s with toks:=t }:=I.un (h':=s.heap) (t':=t) Un.refl I.hok
theorem Inv.kept {t':Nat} (I:Inv X pins σ H s) (k:∀ b u,s.heap.get? b = some u → h'.get? b = some u):Inv X pins σ H { s with heap:=h',toks:=t' }:=I.un (Un.kept k) (I.hok.kept k)
theorem Inv.laid {a:Addr} {o:HO} {t':Nat} (I:Inv X pins σ H s) (k:∀ b u,s.heap.get? b = some u → h'.get? b = some u) (hp:s.heap.objs.size ≤ a) (new:ObjOk X.prog X.w (upd H a o) h' a o) :
  Inv X pins σ (upd H a o) { s with heap:=h',toks:=t' }:=I.un (Un.laid k hp (I.hok.fresh hp)) (I.hok.laid k hp new)
theorem Inv.write {x e:Addr} {o:HO} {t':Nat} (I:Inv X pins σ H s) (mu:Mut (H x)) (he:e = x ∨ H e = some (.own x)) (k:∀ b u,b ≠ e → s.heap.get? b = some u → h'.get? b = some u) (heo:∃ u,h'.get? e = some u)
  (new:ObjOk X.prog X.w (upd H x o) h' x o):Inv X pins σ (upd H x o) { s with heap:=h',toks:=t' }:=I.un (Un.write mu he k heo) (I.hok.write mu he k heo new)
theorem Inv.weak {σ':List (Option V)} (I:Inv X pins σ H s) (hl:σ'.length = σ.length) (w:∀ (i:Nat) v,σ'[i]? = some (some v) → σ[i]? = some (some v)):Inv X pins σ' H s :=
 ⟨I.ok,I.os,I.bare,I.base,let ⟨m,hn,hl'⟩:=I.loc;⟨m,hn,fun i x v e1 e2 e3=>hl' i x v e1 (w i v e2) e3⟩,I.cell,I.free,I.freeC,I.pin,I.hok,hl.trans I.len⟩
theorem Inv.pins_of {pins':List (Addr × Obj)} (I:Inv X pins σ H s) (h:∀ p ∈ pins',s.heap.get? p.1 = some p.2 ∧ H p.1 = none ∧ p.1 ≠ X.env.locals ∧ p.1 ∉ X.fs ∧ ∀ v,p.2.data ≠ .cell v):Inv X pins' σ H s :=
 ⟨I.ok,I.os,I.bare,I.base,I.loc,I.cell,I.free,I.freeC,fun p hp=>(List.mem_append.mp hp).elim (fun z=>I.pin p (List.mem_append_left _ z)) (h p),I.hok,I.len⟩
theorem nodup_ix {N:List Str} (hN:N.Nodup) {i j:Nat} {x:Str} (a:N[i]? = some x) (b:N[j]? = some x):i = j:=by
 obtain ⟨h1,e1⟩:=List.getElem?_eq_some_iff.mp a
 obtain ⟨h2,e2⟩:=List.getElem?_eq_some_iff.mp b
 exact (List.getElem_inj hN).mp (e1.trans e2.symm)
theorem store_ok2 {M:Model} {A:Around} {E:Value → Shared → Prop} {i:Nat} {x:Str} {v:V} {u:Value} {Q:Unit → Shared → Prop} (I:Inv X pins σ H s) (hN:X.N.Nodup) (hi:X.N[i]? = some x) (hx:Loc X.env.scope x) (r:RelV v u)
  (h:∀ s',Inv X pins (σ.set i (some v)) H s' → (∃ a,Heap.SameBut a s.heap s'.heap ∧ (a = X.env.locals ∨ X.env.cells.lookup x = some a)) → Q () s') (hf:X.fn x = true ∨ X.env.scope.names.lookup x = some .local:=by first | exact .inl rfl | exact .inr rfl | assumption):wpAny M A (storeName X.env x u) Q E s:=by
 obtain ⟨m,hn,hl⟩:=id I.loc
 have hcls:(X.env.scope.kind == .class || (X.env.scope.kind == .module && X.env.locals != X.env.globals)) = false:=by rw [I.ok.kind];rfl
 have hiσ:i < σ.length:=by rw [I.len];exact (List.getElem?_eq_some_iff.mp hi).1
 have cne:=I.cne
 have tracked:∀ {a:Addr} {h':Heap},(∃ o,s.heap.get? a = some o ∧ H a = none) → Heap.SameBut a s.heap h' → HOk X.prog X.w H h':=fun {a h'} ha hs b ob e=>by
  obtain ⟨_,_,hfree⟩:=ha
  refine (I.hok b ob e).stay (fun c w' hc q=>(hs.2 c ?_).trans q) (fun _ q=>q) fun _ _ q=>q
  rintro rfl
  rcases hc with rfl | hc
  ·rw [hfree] at e;cases e
  ·rw [hfree] at hc;cases hc
 rcases hx with hk | hk
 ·refine wpAny_storeName_local hk hn (fun h' hn' hs=>?_) hcls
  obtain ⟨oL,_,_,hoL,_⟩:=id hn
  refine h _ ⟨I.ok,I.os,I.bare,⟨fun b o e n hb hx=>?_,fun b o e n hb hx=>?_,I.base.free,fun b o e hx=>?_,I.base.tups,I.base.frzs,I.base.tbls⟩,⟨_,hn',fun j y v' e1 e2 e3=>?_⟩,fun y c e=>?_,I.free,I.freeC,fun p hp=>?_,tracked ⟨oL,hoL,I.free⟩ hs,by simpa using I.len⟩ ⟨_,hs,.inl rfl⟩
  ·exact (hs.2 b (Nat.ne_of_lt (Nat.lt_of_lt_of_le (Heap.lt_size e) I.ok.above))).trans (I.base.keep b o e n hb hx)
  ·obtain ⟨sl,e1⟩:=I.base.slot b o e n hb hx
   exact ⟨sl,(hs.2 b (Nat.ne_of_lt (Nat.lt_of_lt_of_le (Heap.lt_size e) I.ok.above))).trans e1⟩
  ·obtain ⟨o',e1⟩:=I.base.there b o e hx
   exact ⟨o',(hs.2 b (Nat.ne_of_lt (Nat.lt_of_lt_of_le (Heap.lt_size e) I.ok.above))).trans e1⟩
  ·by_cases hj:j = i
   ·subst hj
    rw [hi] at e1;cases e1
    rw [List.getElem?_set_self hiσ] at e2
    cases e2
    exact ⟨u,r,.inl ⟨hk,by simp⟩⟩
   ·rw [List.getElem?_set_ne (Ne.symm hj)] at e2
    obtain ⟨u',r',q⟩:=hl j y v' e1 e2 e3
    refine ⟨u',r',?_⟩
    rcases q with ⟨k,e⟩ | ⟨k,c,e,z⟩
    ·refine .inl ⟨k,?_⟩
     have:y ≠ x:=fun e=>hj (nodup_ix hN e1 (e ▸ hi))
     simp [this,e]
    ·exact .inr ⟨k,c,e,z.sameBut hs (cne y c e)⟩
  ·obtain ⟨w',z⟩:=I.cell y c e
   exact ⟨w',z.sameBut hs (cne y c e)⟩
  ·obtain ⟨e,n,ne,nf,d⟩:=I.pin p hp
   exact ⟨(hs.2 p.1 ne).trans e,n,ne,nf,d⟩
 ·have hfn:X.fn x = true:=by
   rcases hf with z | z
   ·exact z
   ·rw [z] at hk;cases hk
  obtain ⟨c,hc⟩:=I.ok.has x (.inl hk)
  obtain ⟨w',z⟩:=I.cell x c hc
  refine wpAny_storeName_cell I.ok.kind hk hc z (fun h' hc' hs=>?_)
  obtain ⟨oc,hoc,hocd⟩:=id z
  refine h { s with heap:=h' } ⟨I.ok,I.os,I.bare,⟨fun b o e n hb hx=>?_,fun b o e n hb hx=>?_,I.base.free,fun b o e hx=>?_,I.base.tups,I.base.frzs,I.base.tbls⟩,⟨m,hn.sameBut hs (Ne.symm (cne x c hc)),fun j y v' e1 e2 e3=>?_⟩,fun y c' e=>?_,I.free,I.freeC,fun p hp=>?_,tracked ⟨oc,hoc,I.freeC x c hc⟩ hs,by simpa using I.len⟩ ⟨c,hs,.inr hc⟩
  ·exact (hs.2 b (Nat.ne_of_lt (Nat.lt_of_lt_of_le (Heap.lt_size e) (I.ok.cab x c hfn hc)))).trans (I.base.keep b o e n hb hx)
  ·obtain ⟨sl,e1⟩:=I.base.slot b o e n hb hx
   exact ⟨sl,(hs.2 b (Nat.ne_of_lt (Nat.lt_of_lt_of_le (Heap.lt_size e) (I.ok.cab x c hfn hc)))).trans e1⟩
  ·obtain ⟨o',e1⟩:=I.base.there b o e hx
   exact ⟨o',(hs.2 b (Nat.ne_of_lt (Nat.lt_of_lt_of_le (Heap.lt_size e) (I.ok.cab x c hfn hc)))).trans e1⟩
  ·by_cases hj:j = i
   ·subst hj
    rw [hi] at e1;cases e1
    rw [List.getElem?_set_self hiσ] at e2
    cases e2
    exact ⟨u,r,.inr ⟨.inl hk,c,hc,hc'⟩⟩
   ·rw [List.getElem?_set_ne (Ne.symm hj)] at e2
    obtain ⟨u',r',q⟩:=hl j y v' e1 e2 e3
    refine ⟨u',r',?_⟩
    rcases q with q | ⟨k,c',e,z'⟩
    ·exact .inl q
    ·refine .inr ⟨k,c',e,z'.sameBut hs ?_⟩
     rintro rfl
     exact hj (nodup_ix hN e1 (I.ok.inj _ _ _ e hc ▸ hi))
  ·by_cases hcc:c' = c
   ·subst hcc;exact ⟨_,hc'⟩
   ·obtain ⟨w2,z2⟩:=I.cell y c' e
    exact ⟨w2,z2.sameBut hs hcc⟩
  ·obtain ⟨e,n,ne,nf,d⟩:=I.pin p hp
   refine ⟨(hs.2 p.1 ?_).trans e,n,ne,nf,d⟩
   intro q
   rw [q,hoc] at e
   have q':oc = p.2:=Option.some.inj e
   exact d w' (by rw [← q'];exact hocd)
theorem store_ok {M:Model} {A:Around} {E:Value → Shared → Prop} {i:Nat} {x:Str} {v:V} {u:Value} {Q:Unit → Shared → Prop} (I:Inv X pins σ H s) (hN:X.N.Nodup) (hi:X.N[i]? = some x) (hx:Loc X.env.scope x) (r:RelV v u)
  (h:∀ s',Inv X pins (σ.set i (some v)) H s' → Q () s') (hf:X.fn x = true ∨ X.env.scope.names.lookup x = some .local:=by first | exact .inl rfl | exact .inr rfl | assumption):wpAny M A (storeName X.env x u) Q E s :=
 store_ok2 I hN hi hx r (fun s' I' _=>h s' I') hf
theorem Inv.call' {s':Shared} {ch:List Addr} (I:Inv X pins σ H s) (ho:s'.os = s.os) (u:Un (frs X.stack) ch H H' s.heap s'.heap) (hok:HOk X.prog X.w H' s'.heap) (hg:AllBare s'.gens)
  (hch:∀ b ∈ ch,(b ∈ X.ex ∨ X.s₀.heap.objs.size ≤ b) ∧ b ≠ X.env.locals ∧ (∀ x c,X.env.cells.lookup x = some c → c ≠ b) ∧ ∀ p ∈ X.pn ++ pins,p.1 ≠ b):Inv X pins σ H' s':=by
 obtain ⟨h',g',d',t',o'⟩:=s'
 have e:o' = s.os:=ho
 subst e
 exact I.call (g':=g') (t':=t') (d':=d') u hok hg hch
end
abbrev XK:=Value → Option Addr → Hp → Prop
abbrev St:=List (Option V)
abbrev VK:=V → Hp → Prop
abbrev TE:=St → Hp → VK → Prop
abbrev TT:=St → Hp → (Bool → Hp → Prop) → Prop
abbrev TA:=St → Hp → (List V → Hp → Prop) → Prop
structure Ends where
 nx:St → Hp → Prop
 rt:VK
 bk:St → Hp → Prop:=fun _ _=>False
 ct:St → Hp → Prop:=fun _ _=>False
abbrev TS:=Ends → St → Hp → Prop
def EP (X:Cx) (pins:List (Addr × Obj)) (σ:St) (Q:VK) (u:Value) (s':Shared):Prop:=∃ v H',Inv X pins σ H' s' ∧ RelV v u ∧ Q v H'
def TP (X:Cx) (pins:List (Addr × Obj)) (σ:St) (Q:Bool → Hp → Prop) (b:Bool) (s':Shared):Prop:=∃ H',Inv X pins σ H' s' ∧ Q b H'
def AP (X:Cx) (pins:List (Addr × Obj)) (σ:St) (Q:List V → Hp → Prop) (us:List Value) (s':Shared):Prop:=∃ vs H',Inv X pins σ H' s' ∧ Vals vs us ∧ Q vs H'
def SP (X:Cx) (pins:List (Addr × Obj)) (D:Ends) (f:Flow) (s':Shared):Prop :=
 match f with
 | .next=>∃ σ' H',Inv X pins σ' H' s' ∧ D.nx σ' H'
 | .brk=>∃ σ' H',Inv X pins σ' H' s' ∧ D.bk σ' H'
 | .cont=>∃ σ' H',Inv X pins σ' H' s' ∧ D.ct σ' H'
 | .ret u=>∃ v σ' H',Inv X pins σ' H' s' ∧ RelV v u ∧ D.rt v H'
def PE (X:Cx) (e:Expr) (t:TE):Prop :=
 ∀ (pins:List (Addr × Obj)) (s:Shared) (σ:St) (H:Hp) (Q:VK),Inv X pins σ H s → t σ H Q → wpAny (model X.prog X.w) X.A (eval e X.env) (EP X pins σ Q) X.xe s
def PT (X:Cx) (e:Expr) (t:TT):Prop :=
 ∀ (pins:List (Addr × Obj)) (s:Shared) (σ:St) (H:Hp) (Q:Bool → Hp → Prop),Inv X pins σ H s → t σ H Q → wpAny (model X.prog X.w) X.A (isTrue e X.env (eval e X.env)) (TP X pins σ Q) X.xe s
def PW (X:Cx) (e:Expr) (t:TT):Prop :=
 ∀ (whole:Sem Value) (pins:List (Addr × Obj)) (s:Shared) (σ:St) (H:Hp) (Q:Bool → Hp → Prop),Inv X pins σ H s → t σ H Q → wpAny (model X.prog X.w) X.A (isTrue e X.env whole) (TP X pins σ Q) X.xe s
theorem PW.pt {X:Cx} {e:Expr} {t:TT} (h:PW X e t):PT X e t:=h _
def PA (X:Cx) (es:List Expr) (t:TA):Prop :=
 ∀ (pos:Pos) (pins:List (Addr × Obj)) (s:Shared) (σ:St) (H:Hp) (Q:List V → Hp → Prop),Inv X pins σ H s → t σ H Q → wpAny (model X.prog X.w) X.A (spliced (backTo pos (starEach es X.env))) (AP X pins σ Q) X.xe s
def PS (X:Cx) (st:Stmt) (t:TS):Prop :=
 ∀ (pins:List (Addr × Obj)) (s:Shared) (σ:St) (H:Hp) (D:Ends),Inv X pins σ H s → t D σ H → wpAny (model X.prog X.w) X.A (exec st X.env) (SP X pins D) X.xe s
def PSs (X:Cx) (st:List Stmt) (t:TS):Prop :=
 ∀ (pins:List (Addr × Obj)) (s:Shared) (σ:St) (H:Hp) (D:Ends),Inv X pins σ H s → t D σ H → wpAny (model X.prog X.w) X.A (execs st X.env) (SP X pins D) X.xe s
theorem thn {α:Type} {t:Sem α} {Q Q':α → Shared → Prop} {M:Model} {A:Around} {E:Value → Shared → Prop} {s:Shared} (h:wpAny M A t Q E s) (hQ:∀ a s,Q a s → Q' a s):wpAny M A t Q' E s:=wpAny_mono h hQ fun _ _ x=>x
end L2
namespace L2
open PySem PySem.Spec PyProof.Rows
section
variable {X:Cx}
def tVar (i:Nat):TE:=fun σ H Q=>∃ v,σ[i]? = some (some v) ∧ Q v H
def tC (v:V):TE:=fun _ H Q=>Q v H
theorem pe_var {i:Nat} {x:Str} {pos:Pos} (hN:X.N[i]? = some x) (hv:Vis X.env.scope x) (hd:(x == ("__debug__" : Str)) = false:=by decide) (hcd:(x == ("__classdict__" : Str)) = false:=by decide):PE X (.Name x pos) (tVar i):=by
 intro pins s σ H Q I h
 obtain ⟨v,e,h⟩:=h
 obtain ⟨m,hn,hl⟩:=I.loc
 obtain ⟨u,r,l⟩:=hl i x v hN e hv
 have fin:EP X pins σ Q u s:=⟨v,H,I,r,h⟩
 rcases l with ⟨hk,hm⟩ | ⟨hk,c,hc,hcell⟩
 ·exact wpAny_Name (wpAny_loadName_local I.ok.kind hk hn hm fin) hd
 ·rcases hk with hk | hk
  ·exact wpAny_Name (wpAny_loadName_cell I.ok.kind hk hc hcell fin) hd
  ·exact wpAny_Name (wpAny_loadName_free I.ok.kind hk hc hcell fin hcd) hd
theorem pe_int {i j pos}:PE X (.Constant (.int i) j pos) (tC (.int i)):=fun _ _ _ H _ I h=>wpAny_Constant_int ⟨.int i,H,I.tok _,⟨_,rfl⟩,h⟩
theorem pe_bl {b j pos}:PE X (.Constant (.bool b) j pos) (tC (.bl b)):=fun _ _ _ H _ I h=>Constant_bool ⟨.bl b,H,I,rfl,h⟩
theorem pe_non {j pos}:PE X (.Constant .none j pos) (tC .non):=fun _ _ _ H _ I h=>Constant_none ⟨.non,H,I,rfl,h⟩
theorem pe_str {x j pos}:PE X (.Constant (.str x) j pos) (tC (.str x)):=fun _ _ _ H _ I h=>Calls.Constant_str ⟨.str x,H,I.tok _,⟨_,rfl⟩,h⟩
def Gl (X:Cx) (x:Str):Prop:=X.env.kindOf x = some .globalImplicit
theorem ld_glob {E:Value → Shared → Prop} {pins:List (Addr × Obj)} {s:Shared} {σ:St} {H:Hp} {x:Str} {u:Value} {pos:Pos} {Q:Value → Shared → Prop} (I:Inv X pins σ H s) (hg:Gl X x) (hm:X.mg x = some u) (h:Q u s)
  (hd:(x == ("__debug__" : Str)) = false:=by decide):wpAny (model X.prog X.w) X.A (eval (.Name x pos) X.env) Q E s :=
 Calls.Name_function_global I.ok.kind hg (Calls.loadGlobal_global (by rw [I.ok.glob];exact I.mod.glob.keeps I.bk) hm h) hd
theorem ld_blt {E:Value → Shared → Prop} {pins:List (Addr × Obj)} {s:Shared} {σ:St} {H:Hp} {x:Str} {u:Value} {pos:Pos} {Q:Value → Shared → Prop} (I:Inv X pins σ H s) (hg:Gl X x) (hm:X.mg x = none) (hv:bootBuiltins x = some u) (h:Q u s)
  (hn:x ≠ "__name__" := by decide) (hd:(x == ("__debug__" : Str)) = false:=by decide):wpAny (model X.prog X.w) X.A (eval (.Name x pos) X.env) Q E s:=by
 obtain ⟨mb,h1,h2⟩:=I.mod.blt
 exact Calls.Name_function_global I.ok.kind hg (Calls.loadGlobal_builtin (by rw [I.ok.glob];exact I.mod.glob.keeps I.bk) hm (by rw [I.ok.blt];exact h1.keeps I.bk) ((h2 x hn).trans hv) h) hd
theorem pe_glob {x:Str} {v:V} {u:Value} {pos:Pos} (hg:Gl X x) (hm:X.mg x = some u) (r:RelV v u) (hd:(x == ("__debug__" : Str)) = false:=by decide):PE X (.Name x pos) (tC v) :=
 fun _ _ _ H _ I h=>ld_glob I hg hm ⟨v,H,I,r,h⟩ hd
theorem pe_bltn {x:Str} {v:V} {u:Value} {pos:Pos} (hg:Gl X x) (hm:X.mg x = none) (hv:bootBuiltins x = some u) (r:RelV v u) (hn:x ≠ "__name__" := by decide) (hd:(x == ("__debug__" : Str)) = false:=by decide):PE X (.Name x pos) (tC v) :=
 fun _ _ _ H _ I h=>ld_blt I hg hm hv ⟨v,H,I,r,h⟩ hn hd
variable {a b:Expr} {ta tb:TE} {pos:Pos}
def tB (t:TE):TT:=fun σ H Q=>t σ H fun x H1=>∃ c,x = .bl c ∧ Q c H1
theorem pt_val {e:Expr} {t:TE} (h:PE X e t) (he:∀ whole,isTrue e X.env whole = (do let v ← whole;standAt e.pos;holding [v] (truthy v)):=by intro _;rfl):PT X e (tB t):=by
 intro pins s σ H Q I hw
 refine isTrue_plain (thn (h pins s σ H _ I hw) fun v s1 ⟨x,H1,I1,r1,q1⟩=>?_) (he _)
 obtain ⟨d,rfl,q⟩:=q1
 cases r1
 exact wpAny_truthy_bool ⟨H1,I1,q⟩
variable {tA tB':TT} {rest:List Expr}
def tAnd (t u:TT):TT:=fun σ H Q=>t σ H fun c H1=>if c = true then u σ H1 Q else Q false H1
def tOr (t u:TT):TT:=fun σ H Q=>t σ H fun c H1=>if c = true then Q true H1 else u σ H1 Q
def tNot (t:TT):TT:=fun σ H Q=>t σ H fun c H1=>Q (!c) H1
theorem pw_and1 (ha:PT X a tA):PW X (.BoolOp .And [a] pos) tA:=by
 intro wh pins s σ H Q I h
 refine isTrue_and (thn (ha pins s σ H Q I h) fun c s1 e=>?_)
 cases c with
 | true=>exact isTrue_and_nil e
 | false=>exact e
theorem pw_or1 (ha:PT X a tA):PW X (.BoolOp .Or [a] pos) tA:=by
 intro wh pins s σ H Q I h
 refine isTrue_or (thn (ha pins s σ H Q I h) fun c s1 e=>?_)
 cases c with
 | false=>exact isTrue_or_nil e
 | true=>exact e
theorem pw_and (ha:PT X a tA) (hb:PW X (.BoolOp .And (b :: rest) pos) tB'):PW X (.BoolOp .And (a :: b :: rest) pos) (tAnd tA tB'):=by
 intro wh pins s σ H Q I h
 refine isTrue_and (thn (ha pins s σ H _ I h) fun c s1 ⟨H1,I1,q1⟩=>?_)
 cases c with
 | true=>exact hb wh pins s1 σ H1 Q I1 q1
 | false=>exact ⟨H1,I1,q1⟩
theorem pw_or (ha:PT X a tA) (hb:PW X (.BoolOp .Or (b :: rest) pos) tB'):PW X (.BoolOp .Or (a :: b :: rest) pos) (tOr tA tB'):=by
 intro wh pins s σ H Q I h
 refine isTrue_or (thn (ha pins s σ H _ I h) fun c s1 ⟨H1,I1,q1⟩=>?_)
 cases c with
 | true=>exact ⟨H1,I1,q1⟩
 | false=>exact hb wh pins s1 σ H1 Q I1 q1
theorem pt_not (ha:PT X a tA):PT X (.UnaryOp .Not a pos) (tNot tA):=by
 intro pins s σ H Q I h
 exact isTrue_not (ha pins s σ H (fun c H1=>Q (!c) H1) I h)
def tAndV (ta tb:TE):TE:=fun σ H Q=>ta σ H fun x H1=>∃ c,x = .bl c ∧ if c = true then tb σ H1 Q else Q (.bl false) H1
def tNotV (ta:TE):TE:=fun σ H Q=>ta σ H fun x H1=>∃ c,x = .bl c ∧ Q (.bl (!c)) H1
theorem pe_one {op} {t:TE} (h:PE X a t):PE X (.BoolOp op [a] pos) t:=fun pins s σ H Q I hw=>BoolOp_one (h pins s σ H Q I hw)
theorem pe_and (ha:PE X a ta) (hb:PE X (.BoolOp .And (b :: rest) pos) tb):PE X (.BoolOp .And (a :: b :: rest) pos) (tAndV ta tb):=by
 intro pins s σ H Q I h
 refine BoolOp_and (thn (ha pins s σ H _ I h) fun v s1 ⟨x,H1,I1,r1,q1⟩=>?_)
 obtain ⟨c,rfl,q1⟩:=q1
 cases r1
 refine wpAny_truthy_bool ?_
 cases c with
 | true=>exact hb pins s1 σ H1 Q I1 q1
 | false=>exact ⟨.bl false,H1,I1,rfl,q1⟩
theorem pe_not (ha:PE X a ta):PE X (.UnaryOp .Not a pos) (tNotV ta):=by
 intro pins s σ H Q I h
 refine UnaryOp_ (thn (ha pins s σ H _ I h) fun v s1 ⟨x,H1,I1,r1,q1⟩=>?_)
 obtain ⟨c,rfl,q1⟩:=q1
 cases r1
 exact not_of (wpAny_truthy_bool ⟨.bl (!c),H1,I1,rfl,q1⟩)
def tIf (t:TT) (ta tb:TE):TE:=fun σ H Q=>t σ H fun c H1=>if c = true then ta σ H1 Q else tb σ H1 Q
theorem pe_ifExp {c:Expr} (hc:PT X c tA) (ha:PE X a ta) (hb:PE X b tb):PE X (.IfExp c a b pos) (tIf tA ta tb):=by
 intro pins s σ H Q I h
 refine wpAny_IfExp (thn (hc pins s σ H _ I h) fun d s1 ⟨H1,I1,q1⟩=>?_)
 cases d with
 | true=>exact ha pins s1 σ H1 Q I1 q1
 | false=>exact hb pins s1 σ H1 Q I1 q1
end
end L2
namespace L2
open PySem PySem.Spec PyProof.Rows
def SqL (K:PySem.W.Frag) (H:Hp) (a:Addr) (xs:List V):Prop :=
 Rd H a (.lst xs) ∨
  ∃ (o:Obj) (its:Array Value) (n:Nat),K.lookup a = some o ∧ o.cls = .type "list" ∧ o.dict = none ∧ o.data = .seq its n ∧ its.size ≤ sizeLine ∧ Vals xs its.toList
def SqT (K:PySem.W.Frag) (H:Hp) (a:Addr) (xs:List V):Prop :=
 Rd H a (.tup xs) ∨
  ∃ (o:Obj) (its:Array Value) (n:Nat),K.lookup a = some o ∧ o.cls = .type "tuple" ∧ o.data = .seq its n ∧ its.size ≤ sizeLine ∧ Vals xs its.toList
def absV:Value → Option V
 | .none=>some .non
 | .bool b=>some (.bl b)
 | .int i _=>some (.int i)
 | .str x _=>some (.str x)
 | .bytes b _=>some (.byt b)
 | .float b _=>some (.flt b)
 | .ref a=>some (.ref a)
 | .type n=>some (.ty n)
 | _=>none
theorem RelV.abs {x:V} {u:Value} (r:RelV x u):absV u = some x:=by
 cases x with
 | non=>cases r;rfl
 | bl _=>cases r;rfl
 | int _=>obtain ⟨t,rfl⟩:=r;rfl
 | str _=>obtain ⟨t,rfl⟩:=r;rfl
 | byt _=>obtain ⟨t,rfl⟩:=r;rfl
 | flt _=>obtain ⟨t,rfl⟩:=r;rfl
 | ref _=>cases r;rfl
 | ty _=>cases r;rfl
theorem RelV.inj {x y:V} {u:Value} (r:RelV x u) (q:RelV y u):x = y:=Option.some.inj (r.abs.symm.trans q.abs)
theorem Vals.inj:∀ {xs ys:List V} {us:List Value},Vals xs us → Vals ys us → xs = ys
 | _,_,_,.nil,.nil=>rfl
 | _,_,_,.cons r t,.cons r' t'=>by rw [r.inj r',Vals.inj t t']
section
variable {X:Cx} {pins:List (Addr × Obj)} {σ:St} {H:Hp} {s:Shared} {a:Addr} {xs ys:List V}
theorem SqL.of {K:PySem.W.Frag} (h:H a = some (.lst xs)):SqL K H a xs:=.inl (.inl h)
theorem SqT.of {K:PySem.W.Frag} (h:H a = some (.tup xs)):SqT K H a xs:=.inl (.inl h)
theorem Inv.list (I:Inv X pins σ H s) (h:SqL X.K H a xs):∃ its:List Value,Vals xs its ∧ PlainL s.heap a its.toArray ∧ xs.length ≤ sizeLine:=by
 rcases h with h | ⟨o,its,n,hk,hc,hd,hs,hz,r⟩
 ·obtain ⟨z,its,n,r,e⟩:=h.ok I.hok
  exact ⟨its,r,⟨_,n,e,rfl,rfl,rfl⟩,z⟩
 ·refine ⟨its.toList,r,⟨o,n,I.kIn a o hk,hc,hd,by simpa using hs⟩,?_⟩
  have e:=r.length
  simp only [Array.length_toList] at e
  omega
theorem Inv.tuple (I:Inv X pins σ H s) (h:SqT X.K H a xs):∃ its:List Value,Vals xs its ∧ IsTup s.heap a its.toArray ∧ xs.length ≤ sizeLine:=by
 rcases h with h | ⟨o,its,n,hk,hc,hs,hz,r⟩
 ·obtain ⟨z,its,r,p⟩:=h.ok I.hok
  exact ⟨its,r,p,z⟩
 ·refine ⟨its.toList,r,⟨o,I.kIn a o hk,hc,n,by simpa using hs⟩,?_⟩
  have e:=r.length
  simp only [Array.length_toList] at e
  omega
theorem Inv.list_inj (I:Inv X pins σ H s) (h:SqL X.K H a xs) (h':SqL X.K H a ys):xs = ys:=by
 obtain ⟨its,r,⟨o,n,e,_,_,d⟩,_⟩:=I.list h
 obtain ⟨its',r',⟨o',n',e',_,_,d'⟩,_⟩:=I.list h'
 rw [e] at e';cases e'
 rw [d] at d'
 injection d' with d1 _
 have:its = its':=by simpa using congrArg Array.toList d1
 subst this
 exact r.inj r'
theorem Inv.tuple_inj (I:Inv X pins σ H s) (h:SqT X.K H a xs) (h':SqT X.K H a ys):xs = ys:=by
 obtain ⟨its,r,⟨o,e,_,n,d⟩,_⟩:=I.tuple h
 obtain ⟨its',r',⟨o',e',_,n',d'⟩,_⟩:=I.tuple h'
 rw [e] at e';cases e'
 rw [d] at d'
 injection d' with d1 _
 have:its = its':=by simpa using congrArg Array.toList d1
 subst this
 exact r.inj r'
end
section
variable {X:Cx} {pins:List (Addr × Obj)} {σ:St} {H:Hp} {s:Shared} {E:Value → Shared → Prop}
end
section
variable {X:Cx} {st:Stmt} {rest:List Stmt} {t u:TS} {e:Expr} {te:TE} {pos:Pos}
def tNext:TS:=fun D σ H=>D.nx σ H
def tSeq (t u:TS):TS:=fun D σ H=>t { D with nx:=u D } σ H
theorem pss_nil:PSs X [] tNext:=fun _ _ σ H _ I h=>wpAny_execs_nil ⟨σ,H,I,h⟩
theorem pss_cons (h1:PS X st t) (h2:PSs X rest u):PSs X (st :: rest) (tSeq t u):=by
 intro pins s σ H D I h
 refine wpAny_execs_cons (thn (h1 pins s σ H { D with nx:=u D } I h) fun f s1 q=>?_)
 cases f with
 | next =>
  obtain ⟨σ',H',I',q⟩:=q
  exact h2 pins s1 σ' H' D I' q
 | ret v=>exact q
 | brk=>exact q
 | cont=>exact q
theorem pss_one (h1:PS X st t):PSs X [st] t:=by
 intro pins s σ H D I h
 refine wpAny_execs_cons (thn (h1 pins s σ H D I h) fun f s1 q=>?_)
 cases f with
 | next=>exact wpAny_execs_nil q
 | ret v=>exact q
 | brk=>exact q
 | cont=>exact q
def tCont:TS:=fun D σ H=>D.ct σ H
theorem ps_continue:PS X (.Continue pos) tCont:=fun _ _ σ H _ I h=>wpAny_Continue ⟨σ,H,I,h⟩
theorem Inv.quiet {pins:List (Addr × Obj)} {σ:St} {H:Hp} {s:Shared} (I:Inv X pins σ H s):interactive X.env = false:=by simp [interactive,I.ok.kind]
def tDrop (te:TE):TS:=fun D σ H=>te σ H fun _ H1=>D.nx σ H1
theorem ps_expr (he:PE X e te) (hs:swapsWith e none pos.line X.env = pure false:=by rfl):PS X (.Expr e pos) (tDrop te):=by
 intro pins s σ H D I h
 exact wpAny_Expr_any (thn (he pins s σ H _ I h) fun v s1 ⟨x,H1,I1,r1,q1⟩=>⟨σ,H1,I1,q1⟩) I.quiet hs
def tRet (te:TE):TS:=fun D σ H=>te σ H D.rt
theorem ps_ret (he:PE X e te):PS X (.Return (some e) pos) (tRet te):=by
 intro pins s σ H D I h
 exact wpAny_Return_some (thn (he pins s σ H _ I h) fun v s1 ⟨x,H1,I1,r1,q1⟩=>⟨x,σ,H1,I1,r1,q1⟩)
def tIfS (c:TT) (t u:TS):TS:=fun D σ H=>c σ H fun b H1=>if b = true then t D σ H1 else u D σ H1
theorem ps_if {c:Expr} {a b:List Stmt} {tc:TT} (hc:PT X c tc) (ha:PSs X a t) (hb:PSs X b u):PS X (.If c a b pos) (tIfS tc t u):=by
 intro pins s σ H D I h
 refine wpAny_If (thn (hc pins s σ H _ I h) fun d s1 ⟨H1,I1,q1⟩=>?_)
 cases d with
 | true=>exact ha pins s1 σ H1 D I1 q1
 | false=>exact hb pins s1 σ H1 D I1 q1
end
abbrev TG:=V → St → Hp → (St → Hp → Prop) → Prop
abbrev TGs:=List V → St → Hp → (St → Hp → Prop) → Prop
def PG (X:Cx) (target:Expr) (t:TG):Prop :=
 ∀ (pins:List (Addr × Obj)) (s:Shared) (σ:St) (H:Hp) (v:V) (u:Value) (Q:St → Hp → Prop),Inv X pins σ H s → RelV v u → t v σ H Q →
  wpAny (model X.prog X.w) X.A (assign target X.env u) (fun _ s'=>∃ σ' H',Inv X pins σ' H' s' ∧ Q σ' H') X.xe s
def PGs (X:Cx) (ts:List Expr) (t:TGs):Prop :=
 ∀ (pins:List (Addr × Obj)) (s:Shared) (σ:St) (H:Hp) (vs:List V) (us:List Value) (Q:St → Hp → Prop),Inv X pins σ H s → Vals vs us → t vs σ H Q →
  wpAny (model X.prog X.w) X.A (assignInOrder ((assignEach ts X.env).map (·.2)) us) (fun _ s'=>∃ σ' H',Inv X pins σ' H' s' ∧ Q σ' H') X.xe s
section
variable {X:Cx} {pos:Pos}
def gName (i:Nat):TG:=fun v σ H Q=>Q (σ.set i (some v)) H
theorem pg_name {i:Nat} {x:Str} (hN:X.N.Nodup) (hi:X.N[i]? = some x) (hx:Loc X.env.scope x) (hf:X.fn x = true ∨ X.env.scope.names.lookup x = some .local:=by first | exact .inl rfl | exact .inr rfl | assumption):PG X (.Name x pos) (gName i):=by
 intro pins s σ H v u Q I r h
 exact wpAny_assign_Name (store_ok I hN hi hx r (fun s' I'=>⟨_,H,I',h⟩) hf)
def gNil:TGs:=fun vs σ H Q=>vs = [] ∧ Q σ H
def gCons (t:TG) (u:TGs):TGs:=fun vs σ H Q=>∃ v r,vs = v :: r ∧ t v σ H fun σ' H'=>u r σ' H' Q
theorem pgs_nil:PGs X [] gNil:=by
 intro pins s σ H vs us Q I r h
 obtain ⟨e,h⟩:=h
 subst e
 cases r
 exact assignInOrder_nil ⟨σ,H,I,h⟩
theorem pgs_cons {e:Expr} {es:List Expr} {t:TG} {u:TGs} (h1:PG X e t) (h2:PGs X es u)
  (hs:(assignEach (e :: es) X.env).map (·.2) = assign e X.env :: (assignEach es X.env).map (·.2):=by rfl):PGs X (e :: es) (gCons t u):=by
 intro pins s σ H vs us Q I r h
 obtain ⟨v,vr,e1,h⟩:=h
 subst e1
 cases r with
 | cons r rr =>
  rw [hs]
  refine assignInOrder_cons (thn (h1 pins s σ H _ _ _ I r h) fun _ s1 ⟨σ1,H1,I1,q1⟩=>?_)
  exact h2 pins s1 σ1 H1 _ _ Q I1 rr q1
def gTup (K:PySem.W.Frag) (n:Nat) (t:TGs):TG:=fun v σ H Q=>∃ a xs,v = .ref a ∧ SqT K H a xs ∧ xs.length = n ∧ t xs σ H Q
theorem pg_tup {es:List Expr} {k:Nat} {t:TGs} {n:Nat} (hc:X.calm = true) (h:PGs X es t)
  (hn:(assignEach es X.env).length = n:=by rfl) (hst:(assignEach es X.env).findIdx? (·.1) = none:=by rfl):PG X (.Tuple es k pos) (gTup X.K n t):=by
 intro pins s σ H v u Q I r hw
 obtain ⟨a,xs,e1,hq,hl,hw⟩:=hw
 subst e1
 cases r
 obtain ⟨its,rv,ht,hz⟩:=I.tuple hq
 refine assign_Tuple_tuple (I.ok.hd hc) ht (by simp [hn,← hl,rv.length]) hst fun h' hx=>?_
 have I1:Inv X pins σ H { s with heap:=h' }:=I.kept (t':=s.toks) fun b o e=>hx b o (Nat.ne_of_lt (Heap.lt_size e)) e
 exact h pins _ σ H xs _ Q I1 (by simpa using rv) hw
def tAsg (te:TE) (g:TG):TS:=fun D σ H=>te σ H fun x H1=>g x σ H1 D.nx
theorem ps_asg {tg e:Expr} {te:TE} {g:TG} (he:PE X e te) (hg:PG X tg g) (hs:swapsWithSole [tg] e pos.line X.env = pure false:=by rfl) (hw:swappedStores [tg] e X.env = pure none:=by rfl)
  (h1:(assignEach [tg] X.env).map (·.2) = [assign tg X.env]:=by rfl):PS X (.Assign [tg] e pos) (tAsg te g):=by
 intro pins s σ H D I h
 refine wpAny_Assign_stores (thn (he pins s σ H _ I h) fun v s1 ⟨x,H1,I1,r1,q1⟩=>?_) hs hw
 rw [h1]
 exact thn (hg pins s1 σ H1 x v _ I1 r1 q1) fun _ s2 q=>q
theorem ps_set {i:Nat} {x:Str} {e:Expr} {te:TE} {pos':Pos} (hN:X.N.Nodup) (hi:X.N[i]? = some x) (hx:Loc X.env.scope x) (he:PE X e te) (hs:swapsWith e (some (.Name x pos')) pos.line X.env = pure false:=by rfl) (hf:X.fn x = true ∨ X.env.scope.names.lookup x = some .local:=by first | exact .inl rfl | exact .inr rfl | assumption) :
  PS X (.Assign [.Name x pos'] e pos) (tAsg te (gName i)):=by
 intro pins s σ H D I h
 refine wpAny_Assign_Name (thn (he pins s σ H _ I h) fun v s1 ⟨y,H1,I1,r1,q1⟩=>?_) hs
 exact store_ok I1 hN hi hx r1 (fun s2 I2=>⟨_,H1,I2,q1⟩) hf
end
section
variable {X:Cx} {pos:Pos}
def tWhile (c:TT) (tb:TS):TS:=fun D σ H=>∃ W:Nat → St → Hp → Prop,(∃ m,W m σ H) ∧ ∀ m σ H,W m σ H →
 c σ H fun b H1=>if b = true then ∃ N:St → Hp → Prop,(∀ σ' H',N σ' H' → ∃ m',m' < m ∧ W m' σ' H') ∧ tb { D with nx:=N,ct:=N,bk:=D.nx } σ H1 else D.nx σ H1
theorem ps_while {c:Expr} {body:List Stmt} {tc:TT} {tb:TS} (hp:PassesOwn (model X.prog X.w) X.A X.env X.xe) (hc:PT X c tc) (hb:PSs X body tb):PS X (.While c body [] pos) (tWhile tc tb):=by
 intro pins s σ H D I h
 obtain ⟨W,⟨m0,w0⟩,turn⟩:=h
 refine wpAny_While (codeAny_whileLoop (fun n s'=>∃ σ' H',Inv X pins σ' H' s' ∧ W n σ' H') ?_ m0 ⟨σ,H,I,w0⟩)
 rintro n s1 ⟨σ1,H1,I1,w1⟩
 refine wpAny_passesOwn hp (thn (hc pins s1 σ1 H1 _ I1 (turn n σ1 H1 w1)) fun b s2 ⟨H2,I2,q2⟩=>?_)
 cases b with
 | true =>
  obtain ⟨N,hN,q2⟩:=q2
  rw [if_pos rfl]
  refine wpAny_passesOwn hp (thn (hb pins s2 σ1 H2 _ I2 q2) fun f s3 q3=>?_)
  cases f with
  | next =>
   obtain ⟨σ3,H3,I3,n3⟩:=q3
   obtain ⟨m',hm,w3⟩:=hN σ3 H3 n3
   exact ⟨m',hm,σ3,H3,I3,w3⟩
  | cont =>
   obtain ⟨σ3,H3,I3,n3⟩:=q3
   obtain ⟨m',hm,w3⟩:=hN σ3 H3 n3
   exact ⟨m',hm,σ3,H3,I3,w3⟩
  | brk=>exact q3
  | ret v=>exact q3
 | false =>
  rw [if_neg Bool.false_ne_true]
  exact wpAny_execs_nil ⟨σ1,H2,I2,q2⟩
end
structure It where
 go:Nat → Hp → Prop
 yld:Nat → Hp → V → Hp → Prop
 stop:Nat → Hp → Prop
def FpOk (X:Cx) (pins:List (Addr × Obj)) (H:Hp) (b:Addr):Prop :=
 H b = none ∧ b ≠ X.env.locals ∧ b ∉ X.fs ∧ (b ∈ X.ex ∨ X.s₀.heap.objs.size ≤ b) ∧ (∀ x c,X.env.cells.lookup x = some c → c ≠ b) ∧ ∀ p ∈ X.pn ++ pins,p.1 ≠ b
theorem Inv.fpOk {X:Cx} {pins:List (Addr × Obj)} {σ:St} {H H':Hp} {s:Shared} {b:Addr} (I:Inv X pins σ H s) (hb:s.heap.objs.size ≤ b) (hn:H' b = none):FpOk X pins H' b:=by
 refine ⟨hn,Nat.ne_of_gt (Nat.lt_of_lt_of_le I.lt hb),I.nofs hb,.inr (Nat.le_trans I.sz hb),fun x c e z=>?_,fun p hp z=>?_⟩
 ·obtain ⟨v,q⟩:=I.cell x c e
  exact absurd (Nat.lt_of_lt_of_le q.lt (by rw [z];exact hb)) (Nat.lt_irrefl _)
 ·exact absurd (Nat.lt_of_lt_of_le (Heap.lt_size (I.pin p hp).1) (by rw [z];exact hb)) (Nat.lt_irrefl _)
structure Turn (P:Program) (w:World) (K:PySem.W.Frag) (tg:Expr) (J:It) (fp:List Addr) (it:Addr) (tn:Nat → Heap → Prop):Prop where
 mem:it ∈ fp
 obj:∀ i h,tn i h → ∀ b ∈ fp,∃ o,h.get? b = some o ∧ ∀ v,o.data ≠ .cell v
 keep:∀ i h h',tn i h → (∀ b ∈ fp,∀ o,h.get? b = some o → h'.get? b = some o) → tn i h'
 item:∀ (X:Cx),X.prog = P → X.w = w → X.K = K → X.calm = true → ∀ (i:Nat) (pins:List (Addr × Obj)) (s:Shared) (σ:St) (H:Hp) (E:Value → Shared → Prop),Inv X pins σ H s → (∀ b ∈ fp,FpOk X pins H b) → tn i s.heap → J.go i H →
  wpAny (model P w) X.A (pyNext (.ref it)) (fun r s1=>∃ u,r = some u ∧
   wpAny (model P w) X.A (letOwnedTupleGo tg (.ref it) u) (fun _ s2=>∃ x H',Inv X pins σ H' s2 ∧ RelV x u ∧ J.yld i H x H' ∧ tn (i + 1) s2.heap ∧ ∀ b ∈ fp,H' b = none) E s1) E s
 done:∀ (X:Cx),X.prog = P → X.w = w → X.K = K → X.calm = true → ∀ (i:Nat) (pins:List (Addr × Obj)) (s:Shared) (σ:St) (H:Hp) (E:Value → Shared → Prop),Inv X pins σ H s → (∀ b ∈ fp,FpOk X pins H b) → tn i s.heap → J.stop i H →
  wpAny (model P w) X.A (pyNext (.ref it)) (fun r s1=>r = none ∧ Inv X pins σ H s1) E s
 self:∀ (A:Around) (i:Nat) (s:Shared) (Q:Value → Shared → Prop) (E:Value → Shared → Prop),tn i s.heap → Q (.ref it) s → wpAny (model P w) A (pyIter (.ref it)) Q E s
abbrev TI:=St → Hp → (It → Hp → Prop) → Prop
def PIE (X:Cx) (pins:List (Addr × Obj)) (σ:St) (tg:Expr) (R:It → Hp → Prop) (itv:Value) (s2:Shared):Prop :=
 ∃ (it:Addr) (fp:List Addr) (tn:Nat → Heap → Prop) (J:It) (H':Hp),itv = .ref it ∧ Inv X pins σ H' s2 ∧ Turn X.prog X.w X.K tg J fp it tn ∧ tn 0 s2.heap ∧ (∀ b ∈ fp,FpOk X pins H' b) ∧ R J H'
def PI (X:Cx) (tg iter:Expr) (wi:TI):Prop :=
 ∀ (pins:List (Addr × Obj)) (s:Shared) (σ:St) (H:Hp) (R:It → Hp → Prop),Inv X pins σ H s → wi σ H R →
  wpAny (model X.prog X.w) X.A (eval iter X.env) (fun v s1=>wpAny (model X.prog X.w) X.A (pyIter v) (PIE X pins σ tg R) X.xe s1) X.xe s
theorem go_of {M:Model} {A:Around} {E:Value → Shared → Prop} {s:Shared} {tg:Expr} {it:Addr} {u:Value} {o:Obj} {n:String} {vs:Array Value} {Q:Unit → Shared → Prop} (ho:s.heap.get? it = some o) (hc:o.cls = .type n) (hd:o.data = .fields vs)
  (hn:["enumerate", "zip", "dict_itemiterator", "dict_reverseitemiterator", "odict_iterator", "itertools.zip_longest", "itertools.pairwise"].contains n = false) (hQ:Q () s):wpAny M A (letOwnedTupleGo tg (.ref it) u) Q E s:=by
 unfold letOwnedTupleGo
 cases tg <;> first
  | exact wpAny_pure hQ
  | (cases u <;> first
    | exact wpAny_pure hQ
    | (refine wpAny_bind (wpAny_load ho ?_)
       rw [hc,hd]
       show wpAny M A (if (["enumerate", "zip", "dict_itemiterator", "dict_reverseitemiterator", "odict_iterator", "itertools.zip_longest", "itertools.pairwise"].contains n && vs[0]? == some (rawInt _)) = true then _ else _) Q E s
       rw [if_neg (by intro h;rw [hn,Bool.false_and] at h;cases h)]
       exact wpAny_pure hQ))
def Itl (K:PySem.W.Frag) (a:Addr):It :=
 ⟨fun i H=>∃ xs x,SqL K H a xs ∧ xs[i]? = some x,fun i H x H'=>H' = H ∧ ∀ xs,SqL K H a xs → xs[i]? = some x,fun i H=>∃ xs,SqL K H a xs ∧ xs.length ≤ i⟩
def Itt (K:PySem.W.Frag) (a:Addr):It :=
 ⟨fun i H=>∃ xs x,SqT K H a xs ∧ xs[i]? = some x,fun i H x H'=>H' = H ∧ ∀ xs,SqT K H a xs → xs[i]? = some x,fun i H=>∃ xs,SqT K H a xs ∧ xs.length ≤ i⟩
def Itr (lo:Int) (n:Nat):It:=⟨fun i _=>i < n,fun i H x H'=>H' = H ∧ x = .int (lo + i),fun i _=>n ≤ i⟩
theorem turn_list {P:Program} {w:World} {K:PySem.W.Frag} {tg:Expr} (a it:Addr):Turn P w K tg (Itl K a) [it] it (fun i h=>h.IsListIter it a i) where
 mem:=by simp
 obj:=fun i h st b hb=>by
  have e:b = it:=by simpa using hb
  subst e
  obtain ⟨o,e,c,d⟩:=st
  exact ⟨o,e,fun v z=>by rw [d] at z;cases z⟩
 keep:=fun i h h' st k=>st.at fun o e=>k it (by simp) o e
 item:=by
  intro X hP hw hK hc i pins s σ H E I hf st hg
  subst hP hw hK
  obtain ⟨xs,x,hq,hx⟩:=hg
  obtain ⟨its,rv,p,hz⟩:=I.list hq
  obtain ⟨u,hu,ru⟩:=rv.get hx
  obtain ⟨f0,f1,f2,f3,f4,f5⟩:=hf it (by simp)
  refine wpAny_pyNext_list_item st p.isList (x:=u) (by simpa using hu) fun h' st' sb=>?_
  have I1:Inv X pins σ H { s with heap:=h' }:=I.turned (t':=s.toks) (fun b o hb e=>(sb.2 b hb).trans e) f0 f1 f3 f4 f5
  obtain ⟨o,e,c,d⟩:=id st'
  exact ⟨u,rfl,go_of (s:={ s with heap:=h' }) e c d (by decide) ⟨x,H,I1,ru,⟨rfl,fun ys hy=>by rw [I.list_inj hy hq];exact hx⟩,st',fun b hb=>(hf b hb).1⟩⟩
 done:=by
  intro X hP hw hK hc i pins s σ H E I hf st hg
  subst hP hw hK
  obtain ⟨xs,hq,hx⟩:=hg
  obtain ⟨its,rv,p,hz⟩:=I.list hq
  obtain ⟨f0,f1,f2,f3,f4,f5⟩:=hf it (by simp)
  have hl:=rv.length
  exact wpAny_pyNext_list_end (I.ok.hd hc) st p.isList (by simp;omega) fun h' eb=>⟨rfl,I.turned (t':=s.toks) (fun b o hb e=>eb b o hb e) f0 f1 f3 f4 f5⟩
 self:=fun _ _ _ _ _ st h=>wpAny_pyIter_listiter st h
theorem turn_tuple {P:Program} {w:World} {K:PySem.W.Frag} {tg:Expr} (a it:Addr):Turn P w K tg (Itt K a) [it] it (fun i h=>h.IsTupleIter it a i) where
 mem:=by simp
 obj:=fun i h st b hb=>by
  have e:b = it:=by simpa using hb
  subst e
  obtain ⟨o,e,c,d⟩:=st
  exact ⟨o,e,fun v z=>by rw [d] at z;cases z⟩
 keep:=fun i h h' st k=>st.at fun o e=>k it (by simp) o e
 item:=by
  intro X hP hw hK hc i pins s σ H E I hf st hg
  subst hP hw hK
  obtain ⟨xs,x,hq,hx⟩:=hg
  obtain ⟨its,rv,p,hz⟩:=I.tuple hq
  obtain ⟨u,hu,ru⟩:=rv.get hx
  obtain ⟨f0,f1,f2,f3,f4,f5⟩:=hf it (by simp)
  refine wpAny_pyNext_tuple_item st (show s.heap.IsTuple a its.toArray from p) (x:=u) (by simpa using hu) fun h' st' sb=>?_
  have I1:Inv X pins σ H { s with heap:=h' }:=I.turned (t':=s.toks) (fun b o hb e=>(sb.2 b hb).trans e) f0 f1 f3 f4 f5
  obtain ⟨o,e,c,d⟩:=id st'
  exact ⟨u,rfl,go_of (s:={ s with heap:=h' }) e c d (by decide) ⟨x,H,I1,ru,⟨rfl,fun ys hy=>by rw [I.tuple_inj hy hq];exact hx⟩,st',fun b hb=>(hf b hb).1⟩⟩
 done:=by
  intro X hP hw hK hc i pins s σ H E I hf st hg
  subst hP hw hK
  obtain ⟨xs,hq,hx⟩:=hg
  obtain ⟨its,rv,p,hz⟩:=I.tuple hq
  obtain ⟨f0,f1,f2,f3,f4,f5⟩:=hf it (by simp)
  have hl:=rv.length
  exact wpAny_pyNext_tuple_end (I.ok.hd hc) st (show s.heap.IsTuple a its.toArray from p) (by simp;omega) fun h' eb=>⟨rfl,I.turned (t':=s.toks) (fun b o hb e=>eb b o hb e) f0 f1 f3 f4 f5⟩
 self:=fun _ _ _ _ _ st h=>wpAny_pyIter_tupleiter st h
theorem turn_range {P:Program} {w:World} {K:PySem.W.Frag} {tg:Expr} (it:Addr) (lo:Int) (n:Nat):Turn P w K tg (Itr lo n) [it] it (fun i h=>IsRangeIter h it (lo + (i:Nat) * 1) ((n:Int) - (i:Nat)) 1) where
 mem:=by simp
 obj:=fun i h st b hb=>by
  have e:b = it:=by simpa using hb
  subst e
  exact ⟨_,st,fun v z=>by
   have z':Data.fields _ = Data.cell v:=z
   cases z'⟩
 keep:=fun i h h' st k=>k it (by simp) _ st
 item:=by
  intro X hP hw hK hc i pins s σ H E I hf st hg
  subst hP hw hK
  obtain ⟨f0,f1,f2,f3,f4,f5⟩:=hf it (by simp)
  have W:=Walks.range (prog:=X.prog) (w:=X.w) (I.ok.hd hc) it lo 1 n
  refine W.item i s _ _ hg st fun v h' tk hv st' kk=>?_
  obtain ⟨t,rfl⟩:=hv
  have I1:Inv X pins σ H { s with heap:=h',toks:=tk }:=I.turned (fun b o hb e=>kk b o (by simpa using hb) e) f0 f1 f3 f4 f5
  refine ⟨_,rfl,go_of (s:={ s with heap:=h',toks:=tk }) (n := "range_iterator") st' rfl rfl (by decide) ⟨.int (lo + i),H,I1,⟨t,?_⟩,⟨rfl,rfl⟩,st',fun b hb=>(hf b hb).1⟩⟩
  rw [Int.mul_one]
 done:=by
  intro X hP hw hK hc i pins s σ H E I hf st hg
  subst hP hw hK
  obtain ⟨f0,f1,f2,f3,f4,f5⟩:=hf it (by simp)
  exact wpAny_pyNext_range_end (I.ok.hd hc) st (by have:n ≤ i:=hg;omega) fun h' eb=>⟨rfl,I.turned (t':=s.toks) (fun b o hb e=>eb b o hb e) f0 f1 f3 f4 f5⟩
 self:=fun _ _ _ _ _ st h=>wpAny_pyIter_rangeiter st h
end L2
namespace L2
open PySem PySem.Spec PyProof.Rows
section
variable {X:Cx} {tg:Expr}
theorem range_it {pins:List (Addr × Obj)} {σ:St} {H:Hp} {s:Shared} {R:It → Hp → Prop} {E:Value → Shared → Prop} {lo hi:Int} {t u v:Tok} {tk:Nat} (I:Inv X pins σ H s) (h1:-(2 ^ 62) ≤ lo) (h2:lo < 2 ^ 62) (h3:-(2 ^ 62) ≤ hi) (h4:hi < 2 ^ 62)
  (q:R (Itr lo (hi - lo).toNat) H):wpAny (model X.prog X.w) X.A (pyIter (.ref s.heap.objs.size)) (PIE X pins σ tg R) E { s with heap:=s.heap.push { cls:=.type "range", data:=.fields #[.int lo t,.int hi u,.int 1 v] },toks:=tk }:=by
 refine wpAny_pyIter_range (IsRange.new ..) (small_one h1 h2 h3 h4) ?_
 have I1:Inv X pins σ H { s with heap:=s.heap.push { cls:=.type "range", data:=.fields #[.int lo t,.int hi u,.int 1 v] },toks:=tk }:=I.kept fun b o e=>Heap.get?_push_of_some _ e
 refine ⟨(s.heap.push { cls:=.type "range", data:=.fields #[.int lo t,.int hi u,.int 1 v] }).objs.size,[(s.heap.push { cls:=.type "range", data:=.fields #[.int lo t,.int hi u,.int 1 v] }).objs.size],_,_,H,rfl,
  I1.kept (t':=tk) fun b o e=>Heap.get?_push_of_some _ e,turn_range _ lo (hi - lo).toNat,?_,fun b hb=>?_,q⟩
 ·have e1:lo + ((0:Nat):Int) * 1 = lo:=by simp
  have e2:(((hi - lo).toNat:Nat):Int) - ((0:Nat):Int) = Builtin.Range.rangeSize lo hi 1:=by rw [rangeSize_one];split <;> omega
  show IsRangeIter _ _ (lo + ((0:Nat):Int) * 1) ((((hi - lo).toNat:Nat):Int) - ((0:Nat):Int)) 1
  rw [e1,e2]
  exact Heap.get?_push_size _ rfl
 ·have e:b = (s.heap.push { cls:=.type "range", data:=.fields #[.int lo t,.int hi u,.int 1 v] }).objs.size:=by simpa using hb
  subst e
  exact I1.fpOk (Nat.le_refl _) (I1.hok.fresh (Nat.le_refl _))
def iRng1 (ta:TA):TI:=fun σ H R=>ta σ H fun vs H1=>∃ j:Int,vs = [.int j] ∧ -(2 ^ 62) ≤ j ∧ j < 2 ^ 62 ∧ R (Itr 0 j.toNat) H1
theorem pi_range1 {a:Expr} {ta:TA} {p pos:Pos} (hg:Gl X "range") (hm:X.mg "range" = none) (ha:PA X [a] ta) (hs:starEach [a] X.env = [(false,eval a X.env)]:=by rfl):PI X tg (.Call (.Name "range" p) [a] [] pos) (iRng1 ta):=by
 intro pins s σ H R I h
 refine Call_ (ld_blt I hg hm boot_range (PyProof.Rows.callWith_type1 (thn (ha pos pins s σ H _ I h) fun us s1 ⟨vs,H1,I1,r1,q1⟩=>?_) hs rfl))
 obtain ⟨j,e,q1,q2,q⟩:=q1
 subst e
 cases r1 with
 | cons r rr =>
  cases rr
  obtain ⟨t,rfl⟩:=r
  exact call_range_1 (range_it I1 (by omega) (by omega) q1 q2 (by simpa using q))
def tFor (wi:TI) (g:TG) (tb:TS):TS:=fun D σ H=>wi σ H fun J H1=>∃ W:Nat → Nat → St → Hp → Prop,(∃ m,W 0 m σ H1) ∧ ∀ i m σ H,W i m σ H →
 (J.stop i H ∧ D.nx σ H) ∨ (J.go i H ∧ ∃ N:St → Hp → Prop,(∀ σ' H',N σ' H' → ∃ m',m' < m ∧ W (i + 1) m' σ' H') ∧ ∀ x H',J.yld i H x H' → g x σ H' fun σ2 H2=>tb { D with nx:=N,ct:=N,bk:=D.nx } σ2 H2)
def pinsAt (fp:List Addr) (h:Heap):List (Addr × Obj):=fp.filterMap fun b=>(h.get? b).map fun o=>(b,o)
theorem mem_pinsAt {fp:List Addr} {h:Heap} {b:Addr} {o:Obj} (hb:b ∈ fp) (e:h.get? b = some o):(b,o) ∈ pinsAt fp h:=List.mem_filterMap.mpr ⟨b,hb,by rw [e];rfl⟩
theorem of_pinsAt {fp:List Addr} {h:Heap} {p:Addr × Obj} (hp:p ∈ pinsAt fp h):p.1 ∈ fp ∧ h.get? p.1 = some p.2:=by
 obtain ⟨b,hb,e⟩:=List.mem_filterMap.mp hp
 cases q:h.get? b with
 | none=>rw [q] at e;cases e
 | some o =>
  rw [q] at e
  have e':(b,o) = p:=Option.some.inj e
  subst e'
  exact ⟨hb,q⟩
theorem Inv.pinned {pins:List (Addr × Obj)} {σ:St} {H:Hp} {s:Shared} {fp:List Addr} (I:Inv X pins σ H s) (hf:∀ b ∈ fp,FpOk X pins H b) (ho:∀ b ∈ fp,∃ o,s.heap.get? b = some o ∧ ∀ v,o.data ≠ .cell v):Inv X (pins ++ pinsAt fp s.heap) σ H s :=
 I.pins_of fun p hp=>(List.mem_append.mp hp).elim (fun z=>I.pin p (List.mem_append_right _ z)) fun z=>by
  obtain ⟨hb,e⟩:=of_pinsAt z
  obtain ⟨f0,f1,f2,_⟩:=hf p.1 hb
  obtain ⟨o,e',d⟩:=ho p.1 hb
  rw [e] at e';cases e'
  exact ⟨e,f0,f1,f2,d⟩
theorem Inv.unpinned {pins pl:List (Addr × Obj)} {σ:St} {H:Hp} {s:Shared} (I:Inv X (pins ++ pl) σ H s):Inv X pins σ H s:=I.pins_of fun p hp=>I.pin p (List.mem_append_right _ (List.mem_append_left _ hp))
theorem ps_for {iter:Expr} {body:List Stmt} {wi:TI} {g:TG} {tb:TS} {pos:Pos} (hp:PassesOwn (model X.prog X.w) X.A X.env X.xe) (hc:X.calm = true) (hi:PI X tg iter wi) (hg:PG X tg g) (hb:PSs X body tb)
  (hs:∀ x,foldedSetIterable iter X.env x = pure x:=by intro _;rfl):PS X (.For tg iter body [] pos) (tFor wi g tb):=by
 intro pins s σ H D I h
 refine wpAny_For (thn (hi pins s σ H _ I h) fun v s1 h1=>thn h1 fun itv s2 h2=>?_) hs
 obtain ⟨it,fp,tn,J,H2,e,I2,T,st2,f2,W,⟨m0,w0⟩,turn⟩:=h2
 subst e
 have stat:∀ {H':Hp},(∀ b ∈ fp,H' b = none) → ∀ b ∈ fp,FpOk X pins H' b:=fun hn b hb=>⟨hn b hb,(f2 b hb).2⟩
 refine codeAny_forLoop_any (fun n s'=>∃ i σ' H',Inv X pins σ' H' s' ∧ tn i s'.heap ∧ (∀ b ∈ fp,H' b = none) ∧ W i n σ' H') ?_ m0 ⟨0,σ,H2,I2,st2,fun b hb=>(f2 b hb).1,w0⟩
 rintro n s3 ⟨i,σ3,H3,I3,st3,fr3,w3⟩
 rcases turn i n σ3 H3 w3 with ⟨stop,qn⟩ | ⟨go,N,hN,step⟩
 ·refine wpAny_passesOwn hp (thn (T.done X rfl rfl rfl hc i pins s3 σ3 H3 X.xe I3 (stat fr3) st3 stop) fun r s4 ⟨hr,I4⟩=>?_)
  subst hr
  exact wpAny_execs_nil ⟨σ3,H3,I4,qn⟩
 ·refine wpAny_passesOwn hp (thn (T.item X rfl rfl rfl hc i pins s3 σ3 H3 X.xe I3 (stat fr3) st3 go) fun r s4 ⟨u,hr,h4⟩=>?_)
  subst hr
  refine wpAny_passesOwn hp (thn h4 fun _ s5 ⟨x,H5,I5,r5,y5,st5,fr5⟩=>?_)
  have I5':=I5.pinned (stat fr5) (T.obj _ _ st5)
  refine wpAny_passesOwn hp (thn (hg _ s5 σ3 H5 x u _ I5' r5 (step x H5 y5)) fun _ s6 ⟨σ6,H6,I6,q6⟩=>?_)
  refine wpAny_passesOwn hp (thn (hb _ s6 σ6 H6 _ I6 q6) fun f s7 q7=>?_)
  have again:∀ {σ7:St} {H7:Hp},Inv X (pins ++ pinsAt fp s5.heap) σ7 H7 s7 → N σ7 H7 → ∃ m,m < n ∧ ∃ i σ' H',Inv X pins σ' H' s7 ∧ tn i s7.heap ∧ (∀ b ∈ fp,H' b = none) ∧ W i m σ' H':=fun {σ7 H7} I7 n7=>by
   obtain ⟨m',hm,w7⟩:=hN σ7 H7 n7
   refine ⟨m',hm,i + 1,σ7,H7,I7.unpinned,T.keep _ _ _ st5 fun b hb o e=>(I7.pin (b,o) (List.mem_append_right _ (List.mem_append_right _ (mem_pinsAt hb e)))).1,fun b hb=>?_,w7⟩
   obtain ⟨o,e,d⟩:=T.obj _ _ st5 b hb
   exact (I7.pin (b,o) (List.mem_append_right _ (List.mem_append_right _ (mem_pinsAt hb e)))).2.1
  cases f with
  | next=>obtain ⟨σ7,H7,I7,n7⟩:=q7;exact again I7 n7
  | cont=>obtain ⟨σ7,H7,I7,n7⟩:=q7;exact again I7 n7
  | brk=>obtain ⟨σ7,H7,I7,q7⟩:=q7;exact ⟨σ7,H7,I7.unpinned,q7⟩
  | ret v=>obtain ⟨x7,σ7,H7,I7,r7,q7⟩:=q7;exact ⟨x7,σ7,H7,I7.unpinned,r7,q7⟩
end
end L2
namespace L2
open PySem PySem.Spec PyProof.Rows
abbrev R2:=V → V → Hp → VK → Prop
def OpR (X:Cx) (f:Value → Value → Sem Value) (r:R2):Prop :=
 ∀ (pins:List (Addr × Obj)) (s:Shared) (σ:St) (H:Hp) (x y:V) (v u:Value) (Q:VK),Inv X pins σ H s → RelV x v → RelV y u → r x y H Q →
  wpAny (model X.prog X.w) X.A (f v u) (EP X pins σ Q) X.xe s
def UnR (X:Cx) (f:Value → Sem Value) (r:V → Hp → VK → Prop):Prop :=
 ∀ (pins:List (Addr × Obj)) (s:Shared) (σ:St) (H:Hp) (x:V) (v:Value) (Q:VK),Inv X pins σ H s → RelV x v → r x H Q →
  wpAny (model X.prog X.w) X.A (f v) (EP X pins σ Q) X.xe s
def CallR (X:Cx) (f:Value) (r:List V → Hp → VK → Prop):Prop :=
 ∀ (pins:List (Addr × Obj)) (s:Shared) (σ:St) (H:Hp) (xs:List V) (us:List Value) (Q:VK),Inv X pins σ H s → Vals xs us → r xs H Q →
  wpAny (model X.prog X.w) X.A (call f us) (EP X pins σ Q) X.xe s
def tOp (r:R2) (ta tb:TE):TE:=fun σ H Q=>ta σ H fun x H1=>tb σ H1 fun y H2=>r x y H2 Q
def tUn (r:V → Hp → VK → Prop) (ta:TE):TE:=fun σ H Q=>ta σ H fun x H1=>r x H1 Q
def rI (C:Int → Int → Prop) (g:Int → Int → V):R2:=fun x y H Q=>∃ i j,x = .int i ∧ y = .int j ∧ C i j ∧ Q (g i j) H
def rI0 (g:Int → Int → V):R2:=fun x y H Q=>∃ i j,x = .int i ∧ y = .int j ∧ Q (g i j) H
def rU (g:Int → V):V → Hp → VK → Prop:=fun x H Q=>∃ i,x = .int i ∧ Q (g i) H
section
variable {X:Cx} {a b c:Expr} {ta tb tc:TE} {pos:Pos}
theorem binT (ha:PE X a ta) (hb:PE X b tb) {pins:List (Addr × Obj)} {s:Shared} {σ:St} {H:Hp} {R:V → V → Hp → Prop} (I:Inv X pins σ H s)
  (h:ta σ H fun x H1=>tb σ H1 fun y H2=>R x y H2) {Q:Value → Shared → Prop} {f:Value → Value → Sem Value}
  (hf:∀ v u s2 x y H2,Inv X pins σ H2 s2 → RelV x v → RelV y u → R x y H2 → wpAny (model X.prog X.w) X.A (f v u) Q X.xe s2) :
  wpAny (model X.prog X.w) X.A (eval a X.env) (fun v s₁=>wpAny (model X.prog X.w) X.A (eval b X.env) (fun u s₂=>wpAny (model X.prog X.w) X.A (f v u) Q X.xe s₂) X.xe s₁) X.xe s:=by
 refine thn (ha pins s σ H _ I h) fun v s1 ⟨x,H1,I1,r1,q1⟩=>?_
 refine thn (hb pins s1 σ H1 _ I1 q1) fun u s2 ⟨y,H2,I2,r2,q2⟩=>?_
 exact hf v u s2 x y H2 I2 r1 r2 q2
theorem pe_op {op:Operator} {r:R2} (ho:OpR X (binaryOp op) r) (ha:PE X a ta) (hb:PE X b tb):PE X (.BinOp a op b pos) (tOp r ta tb):=by
 intro pins s σ H Q I h
 exact wpAny_BinOp (binT ha hb I h fun v u s2 x y H2 I2 rx ry q=>ho pins s2 σ H2 x y v u Q I2 rx ry q)
theorem pe_un {op:UnaryOp} {r:V → Hp → VK → Prop} (ho:UnR X (unaryOp op) r) (ha:PE X a ta):PE X (.UnaryOp op a pos) (tUn r ta):=by
 intro pins s σ H Q I h
 exact UnaryOp_ (thn (ha pins s σ H _ I h) fun v s1 ⟨x,H1,I1,r1,q1⟩=>ho pins s1 σ H1 x v Q I1 r1 q1)
theorem opI {f:Value → Value → Sem Value} {C:Int → Int → Prop} {g:Int → Int → Int}
  (rule:∀ (i j:Int) (t u:Tok) (s:Shared) (Q:Value → Shared → Prop) (E:Value → Shared → Prop),C i j → Q (.int (g i j) s.toks) { s with toks:=s.toks + 1 } → wpAny (model X.prog X.w) X.A (f (.int i t) (.int j u)) Q E s) :
  OpR X f (rI C fun i j=>.int (g i j)):=by
 intro pins s σ H x y v u Q I rx ry h
 obtain ⟨i,j,rfl,rfl,hc,q⟩:=h
 obtain ⟨t,rfl⟩:=rx
 obtain ⟨t',rfl⟩:=ry
 exact rule i j t t' s _ _ hc ⟨.int (g i j),H,I.tok _,⟨_,rfl⟩,q⟩
theorem opI0 {f:Value → Value → Sem Value} {g:Int → Int → Int}
  (rule:∀ (i j:Int) (t u:Tok) (s:Shared) (Q:Value → Shared → Prop) (E:Value → Shared → Prop),Q (.int (g i j) s.toks) { s with toks:=s.toks + 1 } → wpAny (model X.prog X.w) X.A (f (.int i t) (.int j u)) Q E s) :
  OpR X f (rI0 fun i j=>.int (g i j)):=by
 intro pins s σ H x y v u Q I rx ry h
 obtain ⟨i,j,rfl,rfl,q⟩:=h
 obtain ⟨t,rfl⟩:=rx
 obtain ⟨t',rfl⟩:=ry
 exact rule i j t t' s _ _ ⟨.int (g i j),H,I.tok _,⟨_,rfl⟩,q⟩
theorem opB0 {f:Value → Value → Sem Value} {g:Int → Int → Bool}
  (rule:∀ (i j:Int) (t u:Tok) (s:Shared) (Q:Value → Shared → Prop) (E:Value → Shared → Prop),Q (.bool (g i j)) s → wpAny (model X.prog X.w) X.A (f (.int i t) (.int j u)) Q E s) :
  OpR X f (rI0 fun i j=>.bl (g i j)):=by
 intro pins s σ H x y v u Q I rx ry h
 obtain ⟨i,j,rfl,rfl,q⟩:=h
 obtain ⟨t,rfl⟩:=rx
 obtain ⟨t',rfl⟩:=ry
 exact rule i j t t' s _ _ ⟨.bl (g i j),H,I,rfl,q⟩
def CPow (i j:Int):Prop:=0 ≤ j ∧ j ≤ 1000000 ∧ i.natAbs < 2 ^ 64
theorem two_pow_nn (k:Nat):(0:Int) ≤ 2 ^ k:=by
 rw [two_pow_cast]
 exact Int.natCast_nonneg _
theorem op_add:OpR X (binaryOp .Add) (rI0 fun i j=>.int (i + j)):=opI0 fun _ _ _ _ _ _ _ q=>add_int q
theorem op_sub:OpR X (binaryOp .Sub) (rI0 fun i j=>.int (i - j)):=opI0 fun _ _ _ _ _ _ _ q=>sub_int q
theorem op_modN:OpR X (binaryOp .Mod) (rI (fun _ j=>j ≠ 0) fun i j=>.int (i.fmod j)):=opI fun _ _ _ _ _ _ _ hc q=>mod_int' hc q
theorem op_pow:OpR X (binaryOp .Pow) (rI CPow fun i j=>.int (i ^ j.toNat)):=opI fun _ _ _ _ _ _ _ hc q=>pow_int_small hc.1 hc.2.1 hc.2.2 q
theorem op_shl:OpR X (binaryOp .LShift) (rI CPow fun i j=>.int (i * 2 ^ j.toNat)):=opI fun _ _ _ _ _ _ _ hc q=>lshift_int_small hc.1 hc.2.1 hc.2.2 q
theorem op_shr:OpR X (binaryOp .RShift) (rI (fun _ j=>0 ≤ j) fun i j=>.int (i / 2 ^ j.toNat)):=opI fun i j _ _ _ _ _ hc q =>
 rshift_int hc (by rw [Int.fdiv_eq_ediv_of_nonneg i (two_pow_nn _)];exact q)
theorem unI {f:Value → Sem Value} {g:Int → Int}
  (rule:∀ (i:Int) (t:Tok) (s:Shared) (Q:Value → Shared → Prop) (E:Value → Shared → Prop),Q (.int (g i) s.toks) { s with toks:=s.toks + 1 } → wpAny (model X.prog X.w) X.A (f (.int i t)) Q E s) :
  UnR X f (rU fun i=>.int (g i)):=by
 intro pins s σ H x v Q I rx h
 obtain ⟨i,rfl,q⟩:=h
 obtain ⟨t,rfl⟩:=rx
 exact rule i t s _ _ ⟨.int (g i),H,I.tok _,⟨_,rfl⟩,q⟩
theorem un_neg:UnR X (unaryOp .USub) (rU fun i=>.int (-i)):=unI fun _ _ _ _ _ q=>neg_int q
end
section
variable {X:Cx} {a b c:Expr} {ta tb tc:TE} {pos:Pos}
theorem fin_bl {pins:List (Addr × Obj)} {σ:St} {H:Hp} {s:Shared} {Q:VK} {k k':Bool} (I:Inv X pins σ H s) (q:Q (.bl k) H) (e:k = k'):EP X pins σ Q (.bool k') s:=by
 subst e
 exact ⟨.bl k,H,I,rfl,q⟩
theorem op_lt:OpR X (compareOp .Lt) (rI0 fun i j=>.bl (decide (i < j))):=opB0 fun _ _ _ _ _ _ _ q=>lt_int q
theorem op_le:OpR X (compareOp .LtE) (rI0 fun i j=>.bl (decide (i ≤ j))):=opB0 fun _ _ _ _ _ _ _ q=>le_int q
theorem op_gt:OpR X (compareOp .Gt) (rI0 fun i j=>.bl (decide (j < i))):=opB0 fun _ _ _ _ _ _ _ q=>gt_int q
theorem op_ge:OpR X (compareOp .GtE) (rI0 fun i j=>.bl (decide (j ≤ i))):=opB0 fun _ _ _ _ _ _ _ q=>ge_int q
theorem op_isN:OpR X (compareOp .Is) (fun x y H Q=>y = .non ∧ Q (.bl (decide (x = .non))) H):=by
 intro pins s σ H x y v u Q I rx ry h
 obtain ⟨rfl,q⟩:=h
 cases ry
 refine is_none_gen (fin_bl I q ?_)
 cases x <;> first
  | (cases rx;rfl)
  | (obtain ⟨t,rfl⟩:=rx;rfl)
theorem op_notN:OpR X (compareOp .IsNot) (fun x y H Q=>y = .non ∧ Q (.bl (!decide (x = .non))) H):=by
 intro pins s σ H x y v u Q I rx ry h
 obtain ⟨rfl,q⟩:=h
 cases ry
 refine isnot_none_gen (fin_bl I q ?_)
 cases x <;> first
  | (cases rx;rfl)
  | (obtain ⟨t,rfl⟩:=rx;rfl)
theorem nomark (b:Expr) {op:CmpOp} (h:op ≠ .In:=by decide) (h2:op ≠ .NotIn:=by decide):behindInMarks op b = false:=by
 have e1:(op == CmpOp.In) = false:=by cases op <;> first | rfl | exact absurd rfl h
 have e2:(op == CmpOp.NotIn) = false:=by cases op <;> first | rfl | exact absurd rfl h2
 cases b <;> simp [behindInMarks,e1,e2]
theorem pe_cmpR {op:CmpOp} {r:R2} (ho:OpR X (compareOp op) r) (ha:PE X a ta) (hb:PE X b tb) (hm:behindInMarks op b = false):PE X (.Compare a [op] [b] pos) (tOp r ta tb):=by
 intro pins s σ H Q I h
 exact wpAny_Compare1 (binT ha hb I h fun v u s2 x y H2 I2 rx ry q=>ho pins s2 σ H2 x y v u Q I2 rx ry q) hm
def tTest (t:TE):TT:=fun σ H Q=>t σ H fun x H'=>∃ k,x = .bl k ∧ Q k H'
theorem pt_cmpR {op:CmpOp} {r:R2} (ho:OpR X (compareOp op) r) (ha:PE X a ta) (hb:PE X b tb) (hm:behindInMarks op b = false):PT X (.Compare a [op] [b] pos) (tTest (tOp r ta tb)):=by
 intro pins s σ H Q I h
 refine wpAny_isTrue_Compare1 (thn (ha pins s σ H _ I h) fun v s1 ⟨x,H1,I1,r1,q1⟩=>thn (hb pins s1 σ H1 _ I1 q1) fun u s2 ⟨y,H2,I2,r2,q2⟩ =>
  thn (ho pins s2 σ H2 x y v u _ I2 r1 r2 q2) fun c s3 ⟨z,H3,I3,r3,k,e,q3⟩=>?_) hm
 subst e
 cases r3
 exact wpAny_truthy_bool ⟨H3,I3,q3⟩
theorem line63:(sizeLine:Nat) < 2 ^ 63:=by rw [sizeLine_eq];decide
theorem op_add_str:OpR X (binaryOp .Add) (fun x y H Q=>∃ i j,x = .str i ∧ y = .str j ∧ i.length + j.length ≤ sizeLine ∧ Q (.str (i ++ j)) H):=by
 intro pins s σ H x y v u Q I rx ry h
 obtain ⟨i,j,rfl,rfl,hz,q⟩:=h
 obtain ⟨t,rfl⟩:=rx
 obtain ⟨t',rfl⟩:=ry
 exact add_str (fun t' tk=>⟨.str (i ++ j),H,I.tok _,⟨_,rfl⟩,q⟩) hz
theorem vals1 {x:V} {us:List Value} (r:Vals [x] us):∃ u,us = [u] ∧ RelV x u:=by
 cases r with
 | cons r1 r2=>cases r2;exact ⟨_,rfl,r1⟩
theorem vals2 {x y:V} {us:List Value} (r:Vals [x,y] us):∃ u w',us = [u,w'] ∧ RelV x u ∧ RelV y w':=by
 cases r with
 | cons r1 r2 =>
  cases r2 with
  | cons r3 r4=>cases r4;exact ⟨_,_,rfl,r1,r3⟩
theorem call_abs:CallR X (.builtin "abs") (fun xs H Q=>∃ i,xs = [.int i] ∧ Q (.int (if i < 0 then -i else i)) H):=by
 intro pins s σ H xs us Q I r h
 obtain ⟨i,rfl,q⟩:=h
 obtain ⟨u,rfl,t,rfl⟩:=vals1 r
 exact call_abs_int fun u tk=>⟨.int (if i < 0 then -i else i),H,I.tok _,⟨_,rfl⟩,q⟩
end
end L2
namespace L2
open PySem PySem.Spec PyProof.Rows
structure ObjM (h:Heap) (x dx C:Addr) (mA:Str → Option Value):Prop where
 obj:h.get? x = some (PySem.W.instObj C dx)
 ns:h.Ns1 dx mA
 ne:dx ≠ x
theorem lookIn_ns {h:Heap} {dx:Addr} {mA:Str → Option Value} (n:h.Ns1 dx mA):∃ od,h.get? dx = some od ∧ ∀ name,PySem.W.lookIn name od = some (mA name):=by
 obtain ⟨o,es,ep,ho,hd,hk,_,hm⟩:=n
 refine ⟨o,ho,fun name=>?_⟩
 have e:=hm name
 unfold nsFind findBy at e
 rw [← Array.find?_toList] at e
 unfold PySem.W.lookIn
 rw [hd]
 dsimp only
 split
 ·rename_i y q
  rw [q] at e
  exact congrArg some e
 ·rename_i q
  rw [q] at e
  have a:es.toList.any (·.refKey) = false:=by
   rw [List.any_eq_false]
   intro y hy
   obtain ⟨z,t,hkey⟩:=hk y (Array.mem_toList_iff.mp hy)
   simp [DictEntry.refKey,hkey]
  have a':¬ es.toList.any (·.refKey) = true:=by rw [a];exact Bool.false_ne_true
  rw [if_neg a']
  exact congrArg some e
theorem ObjM.look {h:Heap} {x dx C:Addr} {mA:Str → Option Value} (I:ObjM h x dx C mA):∃ od,PySem.W.InstAt h x (PySem.W.instObj C dx) C (some od) ∧ ∀ name,PySem.W.lookIn name od = some (mA name) :=
 let ⟨od,ho,hl⟩:=lookIn_ns I.ns
 ⟨od,⟨I.obj,rfl,rfl,ho⟩,hl⟩
section
variable {prog:Program} {w:World} {A:Around} {E:Value → Shared → Prop} {s:Shared} {K:PySem.W.Frag} {x dx C f:Addr} {mA:Str → Option Value} {name:Str} {v:Value}
theorem get_map {expr:Bool} {Q:Value → Shared → Prop} (X:K.In s.heap) (I:ObjM s.heap x dx C mA) (hg:PySem.W.plainGet K C name = true) (hh:PySem.W.hasDictIn K C = true)
  (ha:PySem.W.findIn K (.ref C) name = some none) (hv:mA name = some v) (hv':PySem.W.handedIn v = true) (h:Q v { s with toks:=s.toks + 1 }) :
  wpAny (model prog w) A (getAttr (.ref x) name expr) Q E s:=by
 obtain ⟨od,J,hl⟩:=I.look
 exact PySem.W.get_value X J (PySem.W.plainGet_of hg).1 (PySem.W.findObj_own hh ha rfl (by rw [hl,hv])) hv' h
theorem get_meth {pl:Sem Bool} {Q:Value × List Value → Shared → Prop} (X:K.In s.heap) (I:ObjM s.heap x dx C mA) (hg:PySem.W.plainGet K C name = true)
  (hf:PySem.W.findIn K (.ref C) name = some (some (.ref f))) (ht:PySem.W.isFn K (.ref f) = true) (hv:mA name = none) (h:Q (.ref f,[.ref x]) s) :
  wpAny (model prog w) A (getMethod (.ref x) name pl) Q E s:=by
 obtain ⟨od,J,hl⟩:=I.look
 exact PySem.W.method_fn X J (PySem.W.plainGet_of hg).1 (PySem.W.plainGet_of hg).2 hf (beq_iff_eq.mp ht) (by show (PySem.W.lookIn name od).map (·.isSome) = some false;rw [hl,hv];rfl) h
theorem set_map {ns:List Str} {Q:Unit → Shared → Prop} (X:K.In s.heap) (I:ObjM s.heap x dx C mA)
  (hs:PySem.W.findIn K (.ref C) "__setattr__" = some (some (.builtin "object.__setattr__"))) (hp:PySem.W.plainOver K C = true) (ht:PySem.W.takerIn K C name = some none) (hh:PySem.W.hasDictIn K C = true)
  (hw:PySem.Within mA ns) (hsz:ns.length ≤ sizeLine)
  (h:∀ h',ObjM h' x dx C (fun y=>if y = name then some v else mA y) → Heap.SameBut dx s.heap h' → Q () { s with heap:=h',toks:=s.toks + 2 }) :
  wpAny (model prog w) A (setAttr (.ref x) name v) Q E s:=by
 obtain ⟨od,J,hl⟩:=I.look
 refine PySem.W.set_plain X J hs (PySem.W.osa_open (s:={ s with toks:=s.toks + 1 }) (r:=none) X J hp ht fun b=>?_)
 obtain ⟨cd,hc,hd'⟩:=PySem.W.any_some hh
 have hx:s.heap.get? x = some ⟨.ref C,some dx,.plain,#[]⟩:=I.obj
 refine wpAny_bind (wpAny_pure (wpAny_bind (wpAny_bind (wpAny_loadPart hx (wpAny_bind (PySem.W.Looks.here (s:={ s with toks:=s.toks + 1 }) (PySem.W.looks_clsIn X hc) ?_))))))
 rw [hd']
 refine wpAny_pure (a:=some dx) (wpAny_bind (wpAny_pure (wpAny_bind ?_)))
 refine wpAny_nsSet1 (s:={ s with toks:=s.toks + 1 }) I.ns fun h' hn2 hs2=>?_
 obtain ⟨oD,esD,epD,hoD,hdD,hcD⟩:=hn2.count (PySem.Within.cons name v hw)
 refine wpAny_bind (wpAny_lookBehind hoD (by rw [hdD];exact pastItsLine_dict (Nat.le_trans hcD (by rw [List.length_cons];omega))) ?_)
 exact wpAny_pure (h _ ⟨(hs2.2 _ (Ne.symm I.ne)).trans I.obj,hn2,I.ne⟩ hs2)
theorem make_map {R:Result → Shared → Prop} {vs:List Value} {kw:List (Str × Value)} (X:K.In s.heap) (hm:PySem.W.makesIn K C = true)
  (hi:PySem.W.findIn K (.ref C) "__init__" = some (some (.ref f))) (hf:PySem.W.typeIn K (.ref f) = some (.type "function"))
  (h:codeAny (model prog w) (A.under (.builtin "type.__call__" ⟨.ref C :: vs,kw⟩)) (.call (.ref f) ⟨.ref (s.heap.objs.size + 1) :: vs,kw⟩) (PySem.W.InitBack (s.heap.objs.size + 1) R)
   { s with heap:=(s.heap.push PySem.W.emptyDict).push (PySem.W.instObj C s.heap.objs.size) }) :
  codeAny (model prog w) A (.call (.ref C) ⟨vs,kw⟩) R s:=by
 obtain ⟨hh,g,d,t,os⟩:=s
 exact PySem.W.make_core (PySem.W.makes_of X hm) (PySem.W.looks_findIn X hi) (fun self=>PySem.W.bind_fn X self hf) (.inl rfl) h
end
def putF (f:Str) (v:V):List (Str × V) → List (Str × V)
 | []=>[(f,v)]
 | (g,x) :: r=>if g = f then (g,v) :: r else (g,x) :: putF f v r
theorem lookup_putF (f g:Str) (v:V):∀ fs:List (Str × V),(putF f v fs).lookup g = if g = f then some v else fs.lookup g
 | []=>by
  show List.lookup g [(f,v)] = _
  by_cases h:g = f
  ·have hb:(g == f) = true:=beq_iff_eq.mpr h
   simp only [List.lookup,hb,if_pos h]
  ·have hb:(g == f) = false:=beq_eq_false_iff_ne.mpr h
   simp only [List.lookup,hb,if_neg h]
 | (k,x) :: r=>by
  have ih:=lookup_putF f g v r
  rw [show putF f v ((k,x) :: r) = (if k = f then (k,v) :: r else (k,x) :: putF f v r) from rfl]
  by_cases hk:k = f
  ·rw [if_pos hk]
   by_cases h:g = k
   ·have hb:(g == k) = true:=beq_iff_eq.mpr h
    simp only [List.lookup,hb,if_pos (h.trans hk)]
   ·have hb:(g == k) = false:=beq_eq_false_iff_ne.mpr h
    simp only [List.lookup,hb,if_neg (fun e:g = f=>h (e.trans hk.symm))]
  ·rw [if_neg hk]
   by_cases h:g = k
   ·have hb:(g == k) = true:=beq_iff_eq.mpr h
    simp only [List.lookup,hb,if_neg (fun e:g = f=>hk (h.symm.trans e))]
   ·have hb:(g == k) = false:=beq_eq_false_iff_ne.mpr h
    simp only [List.lookup,hb]
    exact ih
theorem keys_putF (f:Str) (v:V):∀ fs:List (Str × V),f ∈ (putF f v fs).map (·.1) ∧ ∀ g,g ∈ fs.map (·.1) → g ∈ (putF f v fs).map (·.1)
 | []=>⟨by simp [putF],fun g h=>by simp at h⟩
 | (k,x) :: r=>by
  obtain ⟨i1,i2⟩:=keys_putF f v r
  rw [show putF f v ((k,x) :: r) = (if k = f then (k,v) :: r else (k,x) :: putF f v r) from rfl]
  by_cases hk:k = f
  ·rw [if_pos hk]
   subst hk
   exact ⟨by simp,fun g h=>by simpa using h⟩
  ·rw [if_neg hk]
   refine ⟨?_,fun g h=>?_⟩
   ·rw [List.map_cons]
    exact List.mem_cons_of_mem _ i1
   ·rw [List.map_cons] at h ⊢
    rcases List.mem_cons.mp h with e | e
    ·exact List.mem_cons.mpr (.inl e)
    ·exact List.mem_cons_of_mem _ (i2 g e)
theorem length_putF (f:Str) (v:V):∀ fs:List (Str × V),(putF f v fs).length ≤ fs.length + 1
 | []=>by simp [putF]
 | (k,x) :: r=>by
  have ih:=length_putF f v r
  rw [show putF f v ((k,x) :: r) = (if k = f then (k,v) :: r else (k,x) :: putF f v r) from rfl]
  by_cases hk:k = f
  ·rw [if_pos hk,List.length_cons,List.length_cons];omega
  ·rw [if_neg hk,List.length_cons,List.length_cons];omega
theorem RelO.some_of {v:V} {o:Option Value} (r:RelO (some v) o):∃ u,o = some u ∧ RelV v u:=by
 cases o with
 | none=>exact (show False from r).elim
 | some u=>exact ⟨u,rfl,r⟩
theorem RelO.none_of {o:Option Value} (r:RelO none o):o = none:=by
 cases o with
 | none=>rfl
 | some u=>exact (show False from r).elim
theorem handed_of {v:V} {u:Value} (r:RelV v u):PySem.W.handedIn u = true:=by
 cases v with
 | non=>cases (show u = Value.none from r);rfl
 | bl b=>cases (show u = Value.bool b from r);rfl
 | int i=>obtain ⟨t,e⟩:=(show ∃ t,u = Value.int i t from r);cases e;rfl
 | str x=>obtain ⟨t,e⟩:=(show ∃ t,u = Value.str x t from r);cases e;rfl
 | byt b=>obtain ⟨t,e⟩:=(show ∃ t,u = Value.bytes b t from r);cases e;rfl
 | flt b=>obtain ⟨t,e⟩:=(show ∃ t,u = Value.float b t from r);cases e;rfl
 | ref a=>cases (show u = Value.ref a from r);rfl
 | ty n=>cases (show u = Value.type n from r);rfl
section
variable {P:Program} {w:World} {H H':Hp} {h h':Heap} {a C dx:Addr} {fs fs':List (Str × V)}
theorem ins_get (hok:HOk P w H h) (e:H a = some (.ins C dx fs)):∃ mA,ObjM h a dx C mA ∧ (∀ f,RelO (fs.lookup f) (mA f)) ∧ PySem.Within mA (fs.map (·.1)) ∧ fs.length ≤ 1000 ∧ H dx = some (.own a):=by
 obtain ⟨d,z,ne,ob,mA,n,r,q⟩:=(show ObjOk P w H h a (.ins C dx fs) from hok a _ e)
 exact ⟨mA,⟨ob,n,ne⟩,r,q,z,d⟩
end
structure Cls (K:PySem.W.Frag) (C:Addr):Prop where
 pg:PySem.W.plainGet K C Str.empty = true
 hd:PySem.W.hasDictIn K C = true
 po:PySem.W.plainOver K C = true
 sa:PySem.W.findIn K (.ref C) "__setattr__" = some (some (.builtin "object.__setattr__"))
theorem Cls.get {K:PySem.W.Frag} {C:Addr} (c:Cls K C) (f:Str):PySem.W.plainGet K C f = true:=c.pg
def NoAttr (K:PySem.W.Frag) (C:Addr) (f:Str):Prop:=PySem.W.findIn K (.ref C) f = some none
theorem NoAttr.taker {K:PySem.W.Frag} {C:Addr} {f:Str} (n:NoAttr K C f):PySem.W.takerIn K C f = some none:=by
 unfold PySem.W.takerIn
 rw [show PySem.W.findIn K (.ref C) f = some none from n]
 rfl
structure Meth (K:PySem.W.Frag) (C:Addr) (m:Str) (f:Addr):Prop where
 at_:PySem.W.findIn K (.ref C) m = some (some (.ref f))
 fn:PySem.W.isFn K (.ref f) = true
 kp:PySem.W.keepIn K (.ref f) = true
section
variable {X:Cx} {pins:List (Addr × Obj)} {σ:St} {H:Hp} {s:Shared} {a C dx:Addr} {fs:List (Str × V)} {f:Str} {v:V} {A:Around} {E:Value → Shared → Prop}
theorem getattr_ok {b:Bool} {Q:Value → Shared → Prop} (I:Inv X pins σ H s) (e:H a = some (.ins C dx fs)) (c:Cls X.K C) (n:NoAttr X.K C f) (l:fs.lookup f = some v)
  (h:∀ u s',Inv X pins σ H s' → RelV v u → Q u s'):wpAny (model X.prog X.w) A (getAttr (.ref a) f b) Q E s:=by
 obtain ⟨mA,O,r,_,_,_⟩:=ins_get I.hok e
 obtain ⟨u,hu,ru⟩:=RelO.some_of (v:=v) (o:=mA f) (by rw [← l];exact r f)
 exact get_map I.kIn O (c.get f) c.hd n hu (handed_of ru) (h u _ (I.tok _) ru)
theorem getmeth_ok {m:Str} {g:Addr} {pl:Sem Bool} {Q:Value × List Value → Shared → Prop} (I:Inv X pins σ H s) (e:H a = some (.ins C dx fs)) (c:Cls X.K C) (k:Meth X.K C m g) (l:fs.lookup m = none)
  (h:Q (.ref g,[.ref a]) s):wpAny (model X.prog X.w) A (getMethod (.ref a) m pl) Q E s:=by
 obtain ⟨mA,O,r,_,_,_⟩:=ins_get I.hok e
 have hn:mA m = none:=RelO.none_of (by rw [← l];exact r m)
 exact get_meth I.kIn O (c.get m) k.at_ k.fn hn h
theorem setattr_ok {y:V} {u:Value} {Q:Unit → Shared → Prop} (I:Inv X pins σ H s) (e:H a = some (.ins C dx fs)) (c:Cls X.K C) (n:NoAttr X.K C f) (hl:fs.length < 1000) (ry:RelV y u)
  (h:∀ s',Inv X pins σ (upd H a (.ins C dx (putF f y fs))) s' → Q () s'):wpAny (model X.prog X.w) A (setAttr (.ref a) f u) Q E s:=by
 obtain ⟨mA,O,r,wi,_,ho⟩:=ins_get I.hok e
 have hz:(fs.map (·.1)).length ≤ sizeLine:=by rw [List.length_map,sizeLine_eq];omega
 refine set_map I.kIn O c.sa c.po n.taker c.hd wi hz fun h' O' sb=>h _ ?_
 have hd:∃ o,h'.get? dx = some o:=let ⟨o,_,_,e',_⟩:=O'.ns;⟨o,e'⟩
 refine I.write (x:=a) (e:=dx) (by rw [e];exact True.intro) (.inr ho) (fun b q hb z=>(sb.2 b hb).trans z) hd ?_
 refine ⟨by rw [upd_ne O.ne];exact ho,?_,O.ne,O'.obj,_,O'.ns,fun g=>?_,fun g hg=>?_⟩
 ·have:=length_putF f y fs;omega
 ·show RelO ((putF f y fs).lookup g) (if g = f then some u else mA g)
  rw [lookup_putF]
  by_cases q:g = f
  ·rw [if_pos q,if_pos q];exact ry
  ·rw [if_neg q,if_neg q];exact r g
 ·by_cases q:g = f
  ·rw [q];exact (keys_putF f y fs).1
  ·refine (keys_putF f y fs).2 g (wi g fun z=>hg ?_)
   show (if g = f then some u else mA g) = none
   rw [if_neg q];exact z
theorem Inv.made (I:Inv X pins σ H s):Inv X pins σ (upd (upd H s.heap.objs.size (.own (s.heap.objs.size + 1))) (s.heap.objs.size + 1) (.ins C s.heap.objs.size []))
  { s with heap:=(s.heap.push PySem.W.emptyDict).push (PySem.W.instObj C s.heap.objs.size) }:=by
 have e1:(s.heap.push PySem.W.emptyDict).get? s.heap.objs.size = some PySem.W.emptyDict:=Heap.get?_push_size s.heap rfl
 have e2:((s.heap.push PySem.W.emptyDict).push (PySem.W.instObj C s.heap.objs.size)).get? (s.heap.objs.size + 1) = some (PySem.W.instObj C s.heap.objs.size):=by
  have:=Heap.get?_push_size (s.heap.push PySem.W.emptyDict) (o:=PySem.W.instObj C s.heap.objs.size) rfl
  rwa [Heap.size_push] at this
 have e3:(s.heap.push PySem.W.emptyDict).Ns s.heap.objs.size (fun _=>none):=⟨PySem.W.emptyDict,#[],_,e1,rfl,(fun e he=>absurd he (by simp)),fun _=>rfl⟩
 have I1:=I.laid (a:=s.heap.objs.size) (o:=.own (s.heap.objs.size + 1)) (h':=s.heap.push PySem.W.emptyDict) (t':=s.toks) (fun b u q=>Heap.get?_push_of_some _ q) (Nat.le_refl _) ⟨_,e1⟩
 refine I1.laid (a:=s.heap.objs.size + 1) (o:=.ins C s.heap.objs.size []) (t':=s.toks) (fun b u q=>Heap.get?_push_of_some _ q) (Nat.le_of_eq (Heap.size_push _ _)) ?_
 have ne:s.heap.objs.size ≠ s.heap.objs.size + 1:=Nat.ne_of_lt (Nat.lt_succ_self _)
 refine ⟨by rw [upd_ne ne,upd_same],Nat.zero_le _,ne,e2,fun _=>none,(Heap.Ns1.of_empty e3).at fun o q=>Heap.get?_push_of_some _ q,fun _=>True.intro,fun y hy=>absurd rfl hy⟩
theorem attr_of {prog:Program} {w:World} {env:Env} {e:Expr} {f:Str} {pos:Pos} {s:Shared} {Q:Value → Shared → Prop} (hb:attributeBase e f env (eval e env) = eval e env)
  (h:wpAny (model prog w) A (eval e env) (fun o s₁=>wpAny (model prog w) A (getAttr o f true) Q E s₁) E s):wpAny (model prog w) A (eval (.Attribute e f pos) env) Q E s :=
 Attribute_any_ h (by rw [arm_eval_Attribute,hb])
end
def tFld (K:PySem.W.Frag) (ta:TE) (f:Str):TE:=fun σ H Q=>ta σ H fun x H1=>∃ a C dx fs v,x = .ref a ∧ H1 a = some (.ins C dx fs) ∧ Cls K C ∧ NoAttr K C f ∧ fs.lookup f = some v ∧ Q v H1
def sFld (K:PySem.W.Frag) (ta tv:TE) (f:Str):TS:=fun D σ H=>tv σ H fun y H1=>ta σ H1 fun x H2=>∃ a C dx fs,x = .ref a ∧ H2 a = some (.ins C dx fs) ∧ Cls K C ∧ NoAttr K C f ∧ fs.length < 1000 ∧
 D.nx σ (upd H2 a (.ins C dx (putF f y fs)))
section
variable {X:Cx} {o e value:Expr} {f:Str} {pos pos' tpos:Pos} {ta tv:TE}
theorem pe_fld (he:PE X e ta) (hb:attributeBase e f X.env (eval e X.env) = eval e X.env):PE X (.Attribute e f pos) (tFld X.K ta f):=by
 intro pins s σ H Q I h
 refine attr_of hb (thn (he pins s σ H _ I h) fun u s1 ⟨x,H1,I1,rx,a,C,dx,fs,v,ex,ea,c,n,l,q⟩=>?_)
 subst ex
 obtain rfl:u = Value.ref a:=rx
 exact getattr_ok I1 ea c n l fun u' s2 I2 ru=>⟨v,H1,I2,ru,q⟩
theorem ps_fld (ha:PE X o ta) (hv:PE X value tv) (hs:swapsWith value (some (.Attribute o f pos')) pos.line X.env = pure false):PS X (.Assign [.Attribute o f pos'] value pos) (sFld X.K ta tv f):=by
 intro pins s σ H D I h
 refine plainObj_wpAny_Assign_Attribute (thn (hv pins s σ H _ I h) fun u s1 ⟨y,H1,I1,ry,q⟩=>thn (ha pins s1 σ H1 _ I1 q) fun ov s2 ⟨x,H2,I2,rx,a,C,dx,fs,ex,ea,c,n,l,q2⟩=>?_) hs
 subst ex
 obtain rfl:ov = Value.ref a:=rx
 exact setattr_ok I2 ea c n l ry fun s3 I3=>⟨σ,_,I3,q2⟩
end
section
variable {X:Cx} {pins:List (Addr × Obj)} {σ:St} {H:Hp} {s:Shared} {A:Around} {E:Value → Shared → Prop} {Q:Value → Shared → Prop} {c:Value} {b:Bool}
inductive TyOf (K:PySem.W.Frag) (H:Hp):V → Value → Prop where
 | non:TyOf K H .non (.type "NoneType")
 | bl (x:Bool):TyOf K H (.bl x) (.type "bool")
 | int (i:Int):TyOf K H (.int i) (.type "int")
 | str (x:Str):TyOf K H (.str x) (.type "str")
 | flt (x:UInt64):TyOf K H (.flt x) (.type "float")
 | lst {a:Addr} {xs:List V} (e:H a = some (.lst xs)):TyOf K H (.ref a) (.type "list")
 | frz {a:Addr} {o:Obj} {xs:List V} (e:H a = some (.frz o (.lst xs))):TyOf K H (.ref a) (.type "list")
 | tup {a:Addr} {xs:List V} (e:H a = some (.tup xs)):TyOf K H (.ref a) (.type "tuple")
 | dK {a:Addr} {kvs:List (Key × V)} (e:H a = some (.dK kvs)):TyOf K H (.ref a) (.type "dict")
 | dT {a:Addr} {kvs:List (List Key × V)} (e:H a = some (.dT kvs)):TyOf K H (.ref a) (.type "dict")
 | ins {a C dx:Addr} {fs:List (Str × V)} (e:H a = some (.ins C dx fs)) (cl:Cls K C) (ha:PySem.W.findIn K (.ref C) "__class__" = some (some (.builtin "object.__class__")))
   (hn:PySem.W.specialIn K (.builtin "object.__class__") "__get__" = some (some (.builtin "getset_descriptor.__get__"))) (htk:PySem.W.takesIn K (.builtin "object.__class__") = some true)
   (hm:PySem.W.mroIn K C (.type "object") = some true):TyOf K H (.ref a) (.ref C)
theorem isinst_ok {x:V} {u t:Value} (I:Inv X pins σ H s) (rx:RelV x u) (ty:TyOf X.K H x t) (e:PySem.W.kitOne X.K t c = some b) (h:∀ tk,Q (.bool b) { s with toks:=tk }) :
  wpAny (model X.prog X.w) A (call (.builtin "isinstance") [u,c]) Q E s:=by
 cases ty with
 | non=>cases (show u = Value.none from rx);exact PySem.W.kia_one PySem.W.kitx_none I.kIn True.intro e (fun z=>nomatch z) h
 | bl y=>cases (show u = Value.bool y from rx);exact PySem.W.kia_one PySem.W.kitx_bool I.kIn True.intro e (fun z=>nomatch z) h
 | int i=>obtain ⟨t,q⟩:=(show ∃ t,u = Value.int i t from rx);cases q;exact PySem.W.kia_one PySem.W.kitx_int I.kIn True.intro e (fun z=>nomatch z) h
 | str y=>obtain ⟨t,q⟩:=(show ∃ t,u = Value.str y t from rx);cases q;exact PySem.W.kia_one PySem.W.kitx_str I.kIn True.intro e (fun z=>nomatch z) h
 | flt y=>obtain ⟨t,q⟩:=(show ∃ t,u = Value.float y t from rx);cases q;exact PySem.W.kia_one PySem.W.kitx_float I.kIn True.intro e (fun z=>nomatch z) h
 | @lst a xs ea =>
  cases (show u = Value.ref a from rx)
  obtain ⟨_,_,n,_,h1⟩:=(show ObjOk X.prog X.w H s.heap a (.lst xs) from I.hok a _ ea)
  exact PySem.W.kia_one PySem.W.kitx_list I.kIn ⟨_,h1,rfl⟩ e (fun z=>nomatch z) h
 | @frz a ob xs ea =>
  cases (show u = Value.ref a from rx)
  obtain ⟨_,_,_,n,_,h1⟩:=(show ObjOk X.prog X.w H s.heap a (.frz ob (.lst xs)) from I.hok a _ ea)
  exact PySem.W.kia_one PySem.W.kitx_list I.kIn ⟨_,h1,rfl⟩ e (fun z=>nomatch z) h
 | @tup a xs ea =>
  cases (show u = Value.ref a from rx)
  obtain ⟨_,_,_,p⟩:=(show ObjOk X.prog X.w H s.heap a (.tup xs) from I.hok a _ ea)
  obtain ⟨o,h1,h2,_⟩:=p
  exact PySem.W.kia_one PySem.W.kitx_tuple I.kIn ⟨o,h1,h2⟩ e (fun z=>nomatch z) h
 | @dK a kvs ea =>
  cases (show u = Value.ref a from rx)
  obtain ⟨_,_,vs,_,p⟩:=(show ObjOk X.prog X.w H s.heap a (.dK kvs) from I.hok a _ ea)
  obtain ⟨o,es,ep,h1,h2,_⟩:=p
  exact PySem.W.kia_one PySem.W.kitx_dict I.kIn ⟨o,h1,h2.1⟩ e (fun z=>nomatch z) h
 | @dT a kvs ea =>
  cases (show u = Value.ref a from rx)
  obtain ⟨_,_,xs,_,o,es,ep,h1,h2,_⟩:=(show ObjOk X.prog X.w H s.heap a (.dT kvs) from I.hok a _ ea)
  exact PySem.W.kia_one PySem.W.kitx_dict I.kIn ⟨o,h1,h2.1⟩ e (fun z=>nomatch z) h
 | @ins a C dx fs ea cl ha hn htk hm =>
  cases (show u = Value.ref a from rx)
  obtain ⟨mA,O,_⟩:=ins_get I.hok ea
  obtain ⟨od,J,_⟩:=O.look
  exact PySem.W.kia_one (PySem.W.kitx_own (cl.get _) cl.hd ha hn htk hm) I.kIn J e (fun z=>nomatch z) h
end
end L2
namespace L2
open PySem PySem.Spec PyProof.Rows
structure Room (k:Nat) (A:Around):Prop where
 hd:A.handled = none
 dp:A.depth + 3 * k + 5 < recursionLimit
 un:A.units + 16 * k + 200 < cLine
theorem Room.mono {j k:Nat} {A:Around} (r:Room k A) (h:j ≤ k):Room j A:=⟨r.hd,by have:=r.dp;omega,by have:=r.un;omega⟩
theorem Room.deeper {k:Nat} {A:Around} (r:Room (k + 1) A) (env:Env):Room k (A.deeper env) :=
 ⟨r.hd,by have:=r.dp;show A.depth + 1 + 3 * k + 5 < _;omega,by have:=r.un;show A.units + 3 + 16 * k + 200 < _;omega⟩
theorem make_depth {A:Around} {C:Addr} {us:List Value} {kw:List (Str × Value)}:(A.under (.builtin "type.__call__" ⟨.ref C :: us,kw⟩)).depth = A.depth + 1:=by
 first | rfl | simp [Around.under,Code.weight,Code.isCreation,Code.isGuard,Code.isCaller,Code.frames,Code.isFrame,guardIds]
theorem make_units {A:Around} {C:Addr} {us:List Value} {kw:List (Str × Value)}:(A.under (.builtin "type.__call__" ⟨.ref C :: us,kw⟩)).units = A.units + 1:=by
 first | rfl | simp [Around.under,Code.cUnits,Code.frames,Code.isFrame]
theorem Room.make {k:Nat} {A:Around} (r:Room (k + 1) A) (C:Addr) (us:List Value) (kw:List (Str × Value)):Room k (A.under (.builtin "type.__call__" ⟨.ref C :: us,kw⟩)) :=
 ⟨r.hd,by have:=r.dp;rw [make_depth];omega,by have:=r.un;rw [make_units];omega⟩
theorem Room.depth {k:Nat} {A:Around} (r:Room k A):A.depth < recursionLimit:=by have:=r.dp;omega
theorem Room.units {k:Nat} {A:Around} (r:Room k A):A.units + 64 < cLine:=by have:=r.un;omega
def tNil:TA:=fun _ H Q=>Q [] H
def tCons (ta:TE) (tr:TA):TA:=fun σ H Q=>ta σ H fun x H1=>tr σ H1 fun xs H2=>Q (x :: xs) H2
section
variable {X:Cx} {e:Expr} {es:List Expr} {te:TE} {t:TA} {pos:Pos}
theorem pa_nil:PA X [] tNil:=fun _ _ _ _ H Q I h=>Calls.spliced_nil ⟨[],H,I,.nil,h⟩
theorem pa_cons (ha:PE X e te) (hr:PA X es t) (hs:starEach (e :: es) X.env = (false,eval e X.env) :: starEach es X.env:=by rfl):PA X (e :: es) (tCons te t):=by
 intro pos pins s σ H Q I h
 rw [hs]
 show wpAny _ _ (spliced ((false,eval e X.env) :: backTo pos (starEach es X.env))) _ _ s
 refine Calls.spliced_cons (thn (ha pins s σ H _ I h) fun u s1 ⟨x,H1,I1,r1,q1⟩=>?_)
 exact thn (hr pos pins s1 σ H1 _ I1 q1) fun us s2 ⟨xs,H2,I2,r2,q2⟩=>⟨x :: xs,H2,I2,.cons r1 r2,q2⟩
def tTup (t:TA):TE:=fun σ H Q=>t σ H fun xs H1=>xs.length ≤ sizeLine ∧ ∀ p,H1 p = none → Q (.ref p) (upd H1 p (.tup xs))
def tLst (t:TA):TE:=fun σ H Q=>t σ H fun xs H1=>xs.length ≤ sizeLine ∧ ∀ p,H1 p = none → Q (.ref p) (upd H1 p (.lst xs))
theorem pe_tup {x1} (h:PA X es t):PE X (.Tuple es x1 pos) (tTup t):=by
 intro pins s σ H Q I hq
 refine wpAny_Tuple_spliced (thn (h pos pins s σ H _ I hq) fun us s1 ⟨xs,H1,I1,r,z,q⟩=>⟨by rw [← r.length];exact z,?_⟩)
 have hf:H1 s1.heap.objs.size = none:=I1.hok.fresh (Nat.le_refl _)
 refine ⟨.ref s1.heap.objs.size,upd H1 s1.heap.objs.size (.tup xs),I1.laid (t':=s1.toks) (fun b u e=>Heap.get?_push_of_some _ e) (Nat.le_refl _) ?_,rfl,q _ hf⟩
 exact ⟨z,us,r,⟨_,Heap.get?_push_size _ rfl,rfl,_,rfl⟩⟩
theorem pe_lst (h:PA X es t):PE X (.List es pos) (tLst t):=by
 intro pins s σ H Q I hq
 refine wpAny_List_spliced (thn (h pos pins s σ H _ I hq) fun us s1 ⟨xs,H1,I1,r,z,q⟩=>⟨by rw [← r.length];exact z,?_⟩)
 have hf:H1 s1.heap.objs.size = none:=I1.hok.fresh (Nat.le_refl _)
 refine ⟨.ref s1.heap.objs.size,upd H1 s1.heap.objs.size (.lst xs),I1.laid (t':=s1.toks) (fun b u e=>Heap.get?_push_of_some _ e) (Nat.le_refl _) ?_,rfl,q _ hf⟩
 exact ⟨z,us,0,r,Heap.get?_push_size _ rfl⟩
end
abbrev Sp:=List V → Hp → VK → XK → Prop
abbrev CXT:=List Env → Hp → Shared → XK → Value → Shared → Prop
structure Env0 (P:Program) (w:World) (K:PySem.W.Frag) (mg:Str → Option Value) (base:Heap) (A:Around) (outer:List Env) (s:Shared) (H:Hp):Prop where
 frames:A.frames = some outer
 mod:Mod K mg base
 bs:∀ b o,base.get? b = some o → s.heap.get? b = some o ∧ H b = none
 bsz:base.objs.size ≤ s.heap.objs.size
 funs:s.heap.FunFrames base outer
 frf:∀ b ∈ frs outer,H b = none
 hok:HOk P w H s.heap
 bare:AllBare s.gens
def CE (outer:List Env) (P:Program) (w:World) (H:Hp) (s:Shared) (Q:VK) (u:Value) (s':Shared):Prop :=
 ∃ v H',s'.os = s.os ∧ AllBare s'.gens ∧ Un (frs outer) [] H H' s.heap s'.heap ∧ HOk P w H' s'.heap ∧ RelV v u ∧ Q v H'
def CR (CX:CXT) (outer:List Env) (P:Program) (w:World) (H:Hp) (s:Shared) (Q:VK) (E:XK) (r:Result) (s':Shared):Prop :=
 match r with
 | .ok (.ret u)=>CE outer P w H s Q u s'
 | .ok _=>False
 | .error e=>CX outer H s E e s'
structure FnOk (P:Program) (w:World) (K:PySem.W.Frag) (mg:Str → Option Value) (base:Heap) (CX:CXT) (k:Nat) (f:Addr) (fd:FuncData) (ps:List Str) (sp:Sp):Prop where
 len:∀ vs H Q E,sp vs H Q E → vs.length = ps.length
 run:∀ (A:Around) (outer:List Env) (s:Shared) (H:Hp) (args:Args) (us:List Value) (vs:List V) (Q:VK) (E:XK),Room k A → Env0 P w K mg base A outer s H → BindsTo s fd args (ps.zip us) → Vals vs us → sp vs H Q E →
  codeAny (model P w) A (.call (.ref f) args) (CR CX outer P w H s Q E) s
theorem FnOk.mono {P:Program} {w:World} {K:PySem.W.Frag} {mg:Str → Option Value} {base:Heap} {CX:CXT} {j k:Nat} {f:Addr} {fd:FuncData} {ps:List Str} {sp:Sp} (F:FnOk P w K mg base CX j f fd ps sp) (h:j ≤ k) :
  FnOk P w K mg base CX k f fd ps sp:=⟨F.len,fun A outer s H args us vs Q E hr=>F.run A outer s H args us vs Q E (hr.mono h)⟩
theorem FnOk.imp {P:Program} {w:World} {K:PySem.W.Frag} {mg:Str → Option Value} {base:Heap} {CX:CXT} {k:Nat} {f:Addr} {fd:FuncData} {ps:List Str} {sp sp':Sp} (F:FnOk P w K mg base CX k f fd ps sp)
  (h:∀ vs H Q E,sp' vs H Q E → sp vs H Q E):FnOk P w K mg base CX k f fd ps sp' :=
 ⟨fun vs H Q E q=>F.len vs H Q E (h _ _ _ _ q),fun A outer s H args us vs Q E hr he hb hv hs=>F.run A outer s H args us vs Q E hr he hb hv (h _ _ _ _ hs)⟩
theorem Env0.make {P:Program} {w:World} {K:PySem.W.Frag} {mg:Str → Option Value} {base:Heap} {A:Around} {outer:List Env} {s:Shared} {H:Hp} (e:Env0 P w K mg base A outer s H) (C:Addr) (us:List Value) (kw:List (Str × Value)) :
  Env0 P w K mg base (A.under (.builtin "type.__call__" ⟨.ref C :: us,kw⟩)) outer s H:=⟨by first | exact e.frames | (simpa [Around.under,Code.envs,Code.isFrame,pushEnvs] using e.frames),e.mod,e.bs,e.bsz,e.funs,e.frf,e.hok,e.bare⟩
section
variable {X:Cx} {pins:List (Addr × Obj)} {σ:St} {H:Hp} {s s':Shared}
theorem Inv.env0 (I:Inv X pins σ H s):Env0 X.prog X.w X.K X.mg X.base X.A X.stack s H :=
 ⟨I.ok.frames,I.ok.mod,I.bs,Nat.le_trans I.ok.bsz I.sz,I.stack,I.stkFree,I.hok,I.bare⟩
theorem Inv.after {Q:VK} {u:Value} (I:Inv X pins σ H s) (h:CE X.stack X.prog X.w H s Q u s'):EP X pins σ Q u s':=by
 obtain ⟨v,H',os,bare,un,hok,r,q⟩:=h
 obtain ⟨hh,g,d,t,os'⟩:=s'
 obtain rfl:os' = s.os:=os
 exact ⟨v,H',I.call (h':=hh) (g':=g) (d':=d) (t':=t) (ch:=[]) un hok bare (fun b z=>absurd z (by simp)),r,q⟩
end
def tCall (sp:Sp) (dvs:List V) (E:XK) (t:TA):TE:=fun σ H Q=>t σ H fun vs H1=>sp (vs ++ dvs) H1 Q E
def tMake (C:Addr) (sp:Sp) (dvs:List V) (E:XK) (t:TA):TE:=fun σ H Q=>t σ H fun vs H1=>∀ x dx,H1 x = none → H1 dx = none → dx ≠ x →
 sp (.ref x :: (vs ++ dvs)) (upd (upd H1 dx (.own x)) x (.ins C dx [])) (fun v H2=>v = .non ∧ Q (.ref x) H2) E
def Binds (K:PySem.W.Frag) (fd:FuncData) (ps:List Str) (ds:List Value):Prop :=
 ∀ (s:Shared) (us:List Value),K.In s.heap → (us ++ ds).length = ps.length → BindsTo s fd ⟨us,[]⟩ (ps.zip (us ++ ds))
theorem Binds.all {K:PySem.W.Frag} {fd:FuncData} {ps:List Str} (h:∀ us:List Value,us.length = ps.length → bindArgs fd ⟨us,[]⟩ = pure (ps.zip us)):Binds K fd ps []:=fun s us _ hl=>by
 rw [List.append_nil] at hl ⊢
 exact .of_eq (h us hl)
def Passes (CX:CXT) (X:Cx) (E:XK):Prop:=∀ (pins:List (Addr × Obj)) (σ:St) (H:Hp) (s:Shared) (e:Value) (s':Shared),Inv X pins σ H s → CX X.stack H s E e s' → X.xe e s'
section
variable {X:Cx} {CX:CXT} {k:Nat} {f C:Addr} {fd:FuncData} {ps:List Str} {sp:Sp} {dvs:List V} {ds:List Value} {E:XK} {x m:Str} {p pos apos:Pos} {e o:Expr} {es:List Expr} {ta:TE} {t:TA}
theorem run_fn {pins:List (Addr × Obj)} {σ:St} {H:Hp} {s:Shared} {Q:VK} {us:List Value} {vs:List V} (F:FnOk X.prog X.w X.K X.mg X.base CX k f fd ps sp) (hr:Room k X.A) (hb:Binds X.K fd ps ds) (hd:Vals dvs ds) (hx:Passes CX X E)
  (I:Inv X pins σ H s) (r:Vals vs us) (h:sp (vs ++ dvs) H Q E):wpAny (model X.prog X.w) X.A (call (.ref f) us) (EP X pins σ Q) X.xe s:=by
 have r2:Vals (vs ++ dvs) (us ++ ds):=r.append hd
 have hl:(us ++ ds).length = ps.length:=by rw [← r2.length];exact F.len _ _ _ _ h
 refine wpAny_call (codeAny_mono (F.run X.A X.stack s H ⟨us,[]⟩ (us ++ ds) (vs ++ dvs) Q E hr I.env0 (hb s us I.kIn hl) r2 h) fun r s' hq=>?_)
 cases r with
 | error e=>exact hx pins σ H s e s' I hq
 | ok fl =>
  cases fl with
  | ret u=>exact I.after hq
  | next=>exact False.elim hq
  | brk=>exact False.elim hq
  | cont=>exact False.elim hq
theorem pe_call (F:FnOk X.prog X.w X.K X.mg X.base CX k f fd ps sp) (hr:Room k X.A) (hg:Gl X x) (hm:X.mg x = some (.ref f)) (hk:PySem.W.keepIn X.K (.ref f) = true) (hb:Binds X.K fd ps ds) (hd:Vals dvs ds) (hx:Passes CX X E)
  (ha:PA X (e :: es) t) (hdb:(x == ("__debug__" : Str)) = false:=by decide) (he:starEach (e :: es) X.env = (false,eval e X.env) :: starEach es X.env:=by rfl) (hpl:(backTo pos (starEach es X.env)).any (·.1) = false:=by rfl) :
  PE X (.Call (.Name x p) (e :: es) [] pos) (tCall sp dvs E t):=by
 intro pins s σ H Q I h
 refine wpAny_Call_Name_kw (ld_glob I hg hm ?_ hdb)
 refine PySem.W.callWith_K (h₀:=X.base) I.ok.mod.kin hk (thn (ha pos pins s σ H _ I h) fun us s1 ⟨vs,H1,I1,r,q⟩=>⟨I1.kIn,?_⟩) he hpl
 exact run_fn F hr hb hd hx I1 r q
structure Mk (K:PySem.W.Frag) (C f:Addr):Prop where
 makes:PySem.W.makesIn K C = true
 init:PySem.W.findIn K (.ref C) "__init__" = some (some (.ref f))
 fn:PySem.W.isFn K (.ref f) = true
 kp:PySem.W.keepIn K (.ref C) = true
theorem run_make {pins:List (Addr × Obj)} {σ:St} {H:Hp} {s:Shared} {Q:VK} {us:List Value} {vs:List V} (M:Mk X.K C f) (F:FnOk X.prog X.w X.K X.mg X.base CX k f fd ps sp) (hr:Room (k + 1) X.A) (hb:Binds X.K fd ps ds) (hd:Vals dvs ds)
  (hx:Passes CX X E) (I:Inv X pins σ H s) (r:Vals vs us)
  (h:∀ x dx,H x = none → H dx = none → dx ≠ x → sp (.ref x :: (vs ++ dvs)) (upd (upd H dx (.own x)) x (.ins C dx [])) (fun v H2=>v = .non ∧ Q (.ref x) H2) E) :
  wpAny (model X.prog X.w) X.A (call (.ref C) us) (EP X pins σ Q) X.xe s:=by
 have hq:=h (s.heap.objs.size + 1) s.heap.objs.size (I.hok.fresh (Nat.le_succ _)) (I.hok.fresh (Nat.le_refl _)) (Nat.ne_of_lt (Nat.lt_succ_self _))
 have I2:=Inv.made (C:=C) I
 have r2:Vals (V.ref (s.heap.objs.size + 1) :: (vs ++ dvs)) (Value.ref (s.heap.objs.size + 1) :: (us ++ ds)):=.cons rfl (r.append hd)
 have hl:(Value.ref (s.heap.objs.size + 1) :: us ++ ds).length = ps.length:=by
  have e:=r2.length
  rw [F.len _ _ _ _ hq] at e
  exact e.symm
 refine wpAny_call (make_map (f:=f) I.kIn M.makes M.init (beq_iff_eq.mp M.fn) (codeAny_mono (F.run _ X.stack _ _ ⟨Value.ref (s.heap.objs.size + 1) :: us,[]⟩ (Value.ref (s.heap.objs.size + 1) :: (us ++ ds)) _ _ E (hr.make C us [])
  (I2.env0.make C us []) (hb _ (Value.ref (s.heap.objs.size + 1) :: us) I2.kIn hl) r2 hq) fun r s' hq'=>?_))
 cases r with
 | error e=>exact hx pins σ _ _ e s' I2 hq'
 | ok fl =>
  cases fl with
  | ret u =>
   obtain ⟨v,H',I3,rv,ev,q3⟩:=I2.after hq'
   subst ev
   exact ⟨rv,⟨V.ref (s.heap.objs.size + 1),H',I3,rfl,q3⟩⟩
  | next=>exact False.elim hq'
  | brk=>exact False.elim hq'
  | cont=>exact False.elim hq'
theorem pe_make (M:Mk X.K C f) (F:FnOk X.prog X.w X.K X.mg X.base CX k f fd ps sp) (hr:Room (k + 1) X.A) (hg:Gl X x) (hm:X.mg x = some (.ref C)) (hb:Binds X.K fd ps ds) (hd:Vals dvs ds) (hx:Passes CX X E)
  (ha:PA X (e :: es) t) (hdb:(x == ("__debug__" : Str)) = false:=by decide) (he:starEach (e :: es) X.env = (false,eval e X.env) :: starEach es X.env:=by rfl) (hpl:(backTo pos (starEach es X.env)).any (·.1) = false:=by rfl) :
  PE X (.Call (.Name x p) (e :: es) [] pos) (tMake C sp dvs E t):=by
 intro pins s σ H Q I h
 refine wpAny_Call_Name_kw (ld_glob I hg hm ?_ hdb)
 refine PySem.W.callWith_K (h₀:=X.base) I.ok.mod.kin M.kp (thn (ha pos pins s σ H _ I h) fun us s1 ⟨vs,H1,I1,r,q⟩=>⟨I1.kIn,?_⟩) he hpl
 exact run_make M F hr hb hd hx I1 r q
end
section
variable {X:Cx} {CX:CXT} {k:Nat} {f C:Addr} {fd:FuncData} {ps ks:List Str} {sp:Sp} {E:XK} {x m:Str} {p pos apos kpos:Pos} {e o:Expr} {es:List Expr} {kws:List Keyword} {te ta:TE} {t tk:TA} {nm:Option Str}
variable {g:List Value → List Value → List Value} {gV:List V → List V → List V}
end
structure FnScope (N P:List Str) (sc:Scope):Prop where
 kind:sc.kind = .function
 co:sc.isCoroutine = false
 gen:sc.isGenerator = false
 nd:N.Nodup
 pre:N.take P.length = P
 par:∀ x ∈ P,sc.names.lookup x = some .local ∨ sc.names.lookup x = some .cell
 nofree:∀ y ∈ sc.names,y.2 ≠ .free
theorem bindL_out {kindOf:Str → Option NameKind} {x:Str}:∀ {binds:List (Str × Value)} {m:Str → Option Value},(∀ v,(x,v) ∉ binds) → bindL kindOf binds m x = m x
 | [],_,_=>rfl
 | (n,v) :: r,m,h=>by
  unfold bindL
  rw [bindL_out fun w hw=>h w (List.mem_cons_of_mem _ hw)]
  split
  ·have:x ≠ n:=by rintro rfl;exact h v List.mem_cons_self
   simp [this]
  ·rfl
theorem bindC_out {kindOf:Str → Option NameKind} {x:Str}:∀ {binds:List (Str × Value)} {m:Str → Option Value},(∀ v,(x,v) ∉ binds) → bindC kindOf binds m x = m x
 | [],_,_=>rfl
 | (n,v) :: r,m,h=>by
  unfold bindC
  rw [bindC_out fun w hw=>h w (List.mem_cons_of_mem _ hw)]
  split
  ·rfl
  ·have:x ≠ n:=by rintro rfl;exact h v List.mem_cons_self
   simp [this]
theorem bindL_get {kindOf:Str → Option NameKind} {x:Str} {v:Value}:∀ {P:List Str} {vs:List Value} {i:Nat} {m:Str → Option Value},P.Nodup → P[i]? = some x → vs[i]? = some v → kindOf x = some .local →
  bindL kindOf (P.zip vs) m x = some v
 | [],_,_,_,_,h,_,_=>by simp at h
 | _ :: _,[],_,_,_,_,h,_=>by simp at h
 | p :: P,w :: vs,0,m,nd,h1,h2,hk=>by
  simp at h1 h2;subst h1;subst h2
  show bindL kindOf ((p,w) :: P.zip vs) m p = _
  unfold bindL
  rw [bindL_out fun v hv=>(List.nodup_cons.mp nd).1 (List.of_mem_zip hv).1,if_pos hk]
  simp
 | p :: P,w :: vs,i + 1,m,nd,h1,h2,hk=>by
  show bindL kindOf ((p,w) :: P.zip vs) m x = _
  unfold bindL
  exact bindL_get (i:=i) (List.nodup_cons.mp nd).2 (by simpa using h1) (by simpa using h2) hk
theorem bindC_get {kindOf:Str → Option NameKind} {x:Str} {v:Value}:∀ {P:List Str} {vs:List Value} {i:Nat} {m:Str → Option Value},P.Nodup → P[i]? = some x → vs[i]? = some v → kindOf x ≠ some .local →
  bindC kindOf (P.zip vs) m x = some v
 | [],_,_,_,_,h,_,_=>by simp at h
 | _ :: _,[],_,_,_,_,h,_=>by simp at h
 | p :: P,w :: vs,0,m,nd,h1,h2,hk=>by
  simp at h1 h2;subst h1;subst h2
  show bindC kindOf ((p,w) :: P.zip vs) m p = _
  unfold bindC
  rw [bindC_out fun v hv=>(List.nodup_cons.mp nd).1 (List.of_mem_zip hv).1,if_neg hk]
  simp
 | p :: P,w :: vs,i + 1,m,nd,h1,h2,hk=>by
  show bindC kindOf ((p,w) :: P.zip vs) m x = _
  unfold bindC
  exact bindC_get (i:=i) (List.nodup_cons.mp nd).2 (by simpa using h1) (by simpa using h2) hk
def start (N:List Str) (vs:List V):St:=vs.map some ++ List.replicate (N.length - vs.length) none
def cxOf (CX:CXT) (P:Program) (w:World) (K:PySem.W.Frag) (mg:Str → Option Value) (base:Heap) (N:List Str) (qual:Str) (scope:Scope) (f:Addr) (cd:Value) (A:Around) (outer:List Env) (s:Shared) (H:Hp) (E:XK):Cx where
 prog:=P
 w:=w
 K:=K
 mg:=mg
 base:=base
 A:=A.deeper (envOfC qual scope s.heap.objs.size f cd)
 N:=N
 s₀:=s
 H₀:=H
 env:=envOfC qual scope s.heap.objs.size f cd
 outer:=outer
 stack:=envOfC qual scope s.heap.objs.size f cd :: outer
 ex:=[]
 calm:=true
 fn:=fun _=>true
 pn:=[]
 xe:=fun e s'=>wpAny (model P w) (A.deeper (envOfC qual scope s.heap.objs.size f cd)) (leaving (envOfC qual scope s.heap.objs.size f cd) e) (fun _ s''=>CX outer H s E e s'') (fun e' s''=>CX outer H s E e' s'') s'
theorem cell_has {sc:Scope} {n:Nat} {x:Str} (h:sc.names.lookup x = some .cell):∃ c,(cellsFrom n sc.names []).lookup x = some c:=by
 have q:=PySem.W.cellsFrom_some sc.names n [] (.inl h)
 exact Option.isSome_iff_exists.mp q
theorem inv_start {CX:CXT} {P:Program} {w:World} {K:PySem.W.Frag} {mg:Str → Option Value} {base:Heap} {N ps:List Str} {qual:Str} {scope:Scope} {f:Addr} {cd:Value} {A:Around} {outer:List Env} {s s1:Shared} {H:Hp} {E:XK} {us:List Value} {vs:List V}
  (S:FnScope N ps scope) (hd:A.handled = none) (e0:Env0 P w K mg base A outer s H) (hl:vs.length = ps.length) (r:Vals vs us)
  (x:InCallC s s.heap.objs.size (bindL (envOfC qual scope s.heap.objs.size f cd).kindOf (ps.zip us) fun _=>none) (cellsFrom (s.heap.objs.size + 1) scope.names []) (bindC (envOfC qual scope s.heap.objs.size f cd).kindOf (ps.zip us) fun _=>none) s1) :
  Inv (cxOf CX P w K mg base N qual scope f cd A outer s H E) [] (start N vs) H s1:=by
 have hpl:ps.length ≤ N.length:=by have:=congrArg List.length S.pre;rw [List.length_take] at this;omega
 obtain ⟨h1,tk,rfl,hk⟩:=x.done
 have noA:∀ b:Addr,b ∉ (cxOf CX P w K mg base N qual scope f cd A outer s H E).ex:=fun b z=>absurd (show b ∈ ([]:List Addr) from z) (by simp)
 refine ⟨⟨e0.mod,S.kind,rfl,rfl,Nat.le_refl _,fun y z c h1 h2=>?_,fun y hy=>?_,fun y c _ h=>?_,fun _=>hd,Around.frames_deeper e0.frames,.inr ⟨rfl,rfl⟩,fun b z=>absurd z (noA b),e0.bs,e0.bsz,fun b _ _=>noA b,fun b z=>absurd z (noA b),e0.funs,e0.frf⟩,
  rfl,e0.bare,Un.kept hk,⟨_,x.toInCall.ns,fun i y v h1 h2 h3=>?_⟩,fun y c h=>⟨_,x.cell y c h⟩,e0.hok.fresh (Nat.le_refl _),fun y c h=>?_,fun p hp=>absurd (show p ∈ ([]:List (Addr × Obj)) from hp) (by simp),e0.hok.kept hk,?_⟩
 ·exact name_of_addr x.apart (PySem.mem_of_lookup h1) (PySem.mem_of_lookup h2)
 ·have hy:scope.names.lookup y = some .cell ∨ scope.names.lookup y = some .free:=hy
  rcases hy with hy | hy
  ·exact cell_has hy
  ·exact absurd rfl (S.nofree _ (PySem.mem_of_lookup hy))
 ·exact Nat.le_of_lt (x.above y c (PySem.mem_of_lookup h))
 ·have hi:i < vs.length:=by
   unfold start at h2
   by_cases hi:i < vs.length
   ·exact hi
   ·rw [List.getElem?_append_right (by simpa using hi)] at h2
    rw [List.getElem?_replicate] at h2
    split at h2 <;> cases h2
  have ha:vs[i]? = some v:=by
   unfold start at h2
   rw [List.getElem?_append_left (by simpa using hi),List.getElem?_map] at h2
   cases e:vs[i]? with
   | none=>rw [e] at h2;cases h2
   | some a=>rw [e] at h2;cases h2;rfl
  obtain ⟨u,hu,rv⟩:=r.get ha
  have hp:ps[i]? = some y:=by
   rw [← S.pre,List.getElem?_take_of_lt (by omega)];exact h1
  have ndP:ps.Nodup:=by rw [← S.pre];exact S.nd.sublist (List.take_sublist _ _)
  refine ⟨u,rv,?_⟩
  rcases S.par y (List.mem_of_getElem? hp) with k | k
  ·exact .inl ⟨k,bindL_get ndP hp hu k⟩
  ·obtain ⟨c,e⟩:=cell_has (n:=s.heap.objs.size + 1) k
   refine .inr ⟨.inl k,c,e,?_⟩
   have q:=x.cell y c e
   rw [bindC_get ndP hp hu (by show scope.names.lookup y ≠ _;rw [k];decide)] at q
   exact q
 ·exact e0.hok.fresh (Nat.le_of_lt (x.above y c (PySem.mem_of_lookup h)))
 ·unfold start
  show _ = N.length
  rw [List.length_append,List.length_map,List.length_replicate]
  omega
theorem fn_of {CX:CXT} {P:Program} {w:World} {K:PySem.W.Frag} {mg:Str → Option Value} {base:Heap} {k:Nat} {f:Addr} {name qual:Str} {params:Arguments} {body:List Stmt} {scope:Scope} {dV kV doc pm cdv ct oc:Value} {an od:Option Addr}
  {osl:Array (Option Value)} {N ps:List Str} {sp:Sp} (lk:K.lookup f = some ⟨oc,od,.func (PySem.W.fnOf name qual params body scope dV kV doc pm an cdv ct),osl⟩) (hcd:PySem.W.codeIn K cdv qual = true) (S:FnScope N ps scope)
  (len:∀ vs H Q E,sp vs H Q E → vs.length = ps.length)
  (hbody:∀ (A:Around) (outer:List Env) (s:Shared) (H:Hp) (vs:List V) (Q:VK) (E:XK),Room k (A.deeper (envOfC qual scope s.heap.objs.size f cdv)) → sp vs H Q E →
   ∃ t,PSs (cxOf CX P w K mg base N qual scope f cdv A outer s H E) body t ∧ t { nx:=fun _ H'=>Q .non H',rt:=Q } (start N vs) H) :
  FnOk P w K mg base CX (k + 1) f (PySem.W.fnOf name qual params body scope dV kV doc pm an cdv ct) ps sp:=by
 refine ⟨len,fun A outer s H args us vs Q E hr e0 hb r hsp=>?_⟩
 have hl:=len _ _ _ _ hsp
 have KX:K.In s.heap:=e0.mod.kin.keeps fun b o e=>(e0.bs b o e).1
 have lim:s.heap.NoLimit:=e0.mod.nolimit.keeps fun b o e=>(e0.bs b o e).1
 have hkind:∀ y ∈ ps.zip us,scope.names.lookup y.1 = some .local ∨ (scope.names.lookup y.1 = some .cell ∧ ((cellsFrom (s.heap.objs.size + 1) scope.names []).lookup y.1).isSome = true):=fun ⟨n,v⟩ hy=>by
  rcases S.par n (List.of_mem_zip hy).1 with q | q
  ·exact .inl q
  ·exact .inr ⟨q,PySem.W.cellsFrom_some _ _ _ (.inl q)⟩
 refine codeAny_call_function hr.depth (KX _ _ lk) rfl S.co S.gen rfl (PySem.W.codeRec_of KX hcd) (hb _ _ _ _ ?_)
 refine wpAny_newFunctionEnv_cells S.kind hkind fun env he s1 x=>?_
 subst he
 refine ⟨lim.keeps x.toInCall.keep,codeAny_func ?_⟩
 obtain ⟨t,ht,hq⟩:=hbody A outer s H vs Q E (hr.deeper _) hsp
 have I:Inv (cxOf CX P w K mg base N qual scope f cdv A outer s H E) [] (start N vs) H s1:=inv_start S hr.hd e0 hl r x
 refine wpAny_mono (ht [] s1 (start N vs) H _ I hq) (fun fl s' hs=>?_) fun e s' hs=>hs
 have fin:∀ {σ':St} {H':Hp} {v:V} {u:Value},Inv (cxOf CX P w K mg base N qual scope f cdv A outer s H E) [] σ' H' s' → RelV v u → Q v H' → CE outer P w H s Q u s' :=
  fun {σ' H' v u} J rv q=>⟨v,H',J.os,J.bare,J.base,J.hok,rv,q⟩
 cases fl with
 | ret u =>
  obtain ⟨v,σ',H',J,rv,q⟩:=hs
  exact fin J rv q
 | next =>
  obtain ⟨σ',H',J,q⟩:=hs
  exact fin (v:=V.non) (u:=Value.none) J rfl q
 | brk =>
  obtain ⟨_,_,_,q⟩:=hs
  exact False.elim q
 | cont =>
  obtain ⟨_,_,_,q⟩:=hs
  exact False.elim q
end L2
namespace L2
open PySem PySem.Spec PyProof.Rows
section
variable {X:Cx} {x:Str} {p pos:Pos} {e:Expr} {es:List Expr} {t:TA} {id T:String} {r:List V → Hp → VK → Prop}
def tCB (r:List V → Hp → VK → Prop) (t:TA):TE:=fun σ H Q=>t σ H fun vs H1=>r vs H1 Q
theorem pe_callB (hc:CallR X (.builtin id) r) (hg:Gl X x) (hm:X.mg x = none) (hv:bootBuiltins x = some (.builtin id)) (ha:PA X (e :: es) t) (hn:x ≠ "__name__" := by decide) (hdb:(x == ("__debug__" : Str)) = false:=by decide)
  (he:starEach (e :: es) X.env = (false,eval e X.env) :: starEach es X.env:=by rfl) (hpl:(backTo pos (starEach es X.env)).any (·.1) = false:=by rfl):PE X (.Call (.Name x p) (e :: es) [] pos) (tCB r t):=by
 intro pins s σ H Q I h
 refine wpAny_Call_Name_kw (ld_blt I hg hm hv ?_ hn hdb)
 exact PyProof.Rows.callWith_builtin1 (thn (ha pos pins s σ H _ I h) fun us s1 ⟨vs,H1,I1,r1,q1⟩=>hc pins s1 σ H1 vs us Q I1 r1 q1) he hpl
theorem pe_callTy (hc:CallR X (.type T) r) (hg:Gl X x) (hm:X.mg x = none) (hv:bootBuiltins x = some (.type T)) (ha:PA X (e :: es) t) (hn:x ≠ "__name__" := by decide) (hdb:(x == ("__debug__" : Str)) = false:=by decide)
  (he:starEach (e :: es) X.env = (false,eval e X.env) :: starEach es X.env:=by rfl) (hpl:(backTo pos (starEach es X.env)).any (·.1) = false:=by rfl):PE X (.Call (.Name x p) (e :: es) [] pos) (tCB r t):=by
 intro pins s σ H Q I h
 refine wpAny_Call_Name_kw (ld_blt I hg hm hv ?_ hn hdb)
 exact PyProof.Rows.callWith_type1 (thn (ha pos pins s σ H _ I h) fun us s1 ⟨vs,H1,I1,r1,q1⟩=>hc pins s1 σ H1 vs us Q I1 r1 q1) he hpl
end
end L2
namespace HT
open PySem PyProof.Rows
section
open PySem.SeqAt
open PySem.AutoSeq1 (wpAny_loadPart')
open PySem.MeetsSeq PySem.MeetsSeq2 PySem.MeetsSeq3
end
section
variable {prog:Program} {w:World} {A:Around} {E:Value → Shared → Prop} {s:Shared}
theorem cat_tup {t b:Addr} {vs ws:List Value} {Q:Value → Shared → Prop} (ht:IsTup s.heap t vs.toArray) (hb:IsTup s.heap b ws.toArray) (hv:vs ≠ [])
  (h1:ws = [] → Q (.ref t) s) (h2:ws ≠ [] → Q (.ref s.heap.objs.size) { s with heap:=s.heap.push { cls:=.type "tuple", data:=.seq (vs ++ ws).toArray } })
  (hsz:vs.length + ws.length ≤ sizeLine):wpAny (model prog w) A (binaryOp .Add (.ref t) (.ref b)) Q E s:=by
 obtain ⟨⟨cls,dd,data,sl⟩,ho,hc,n,hd⟩:=id ht
 obtain ⟨⟨cls2,dd2,data2,sl2⟩,ho2,hc2,n2,hd2⟩:=id hb
 simp only at hc hd hc2 hd2
 subst hc hd hc2 hd2
 have e:vs.toArray ++ ws.toArray = (vs ++ ws).toArray:=by simp
 by_cases hw:ws = []
 ·exact concat_meets ⟨_,ho,rfl⟩ ⟨_,ho2,rfl⟩ noFill_tuple_add seq_tuple_add PySem.F.slot_tuple_add PySem.F.entry_tuple_add (PySem.F.args_tuple_add_2 _ _)
   (tuple_addW1 t b vs.toArray ws.toArray n n2 dd dd2 sl sl2 (by simpa using hv) (by simp [hw])) ⟨ho,ho2,h1 hw⟩
 ·refine concat_meets ⟨_,ho,rfl⟩ ⟨_,ho2,rfl⟩ noFill_tuple_add seq_tuple_add PySem.F.slot_tuple_add PySem.F.entry_tuple_add (PySem.F.args_tuple_add_2 _ _)
   (tuple_addW2 t b vs.toArray ws.toArray n n2 dd dd2 sl sl2 (by simpa using hv) (by simpa using hw) (by rw [List.size_toArray,List.size_toArray];exact hsz)) ⟨ho,ho2,?_⟩
  rw [e]
  exact h2 hw
def sIx (n d:Nat):Option Int → Nat
 | none=>d
 | some v=>if v < 0 then (v + (n:Int)).toNat else min v.toNat n
theorem sIx_le (n d:Nat) (hd:d ≤ n) (o:Option Int):sIx n d o ≤ n:=by
 cases o with
 | none=>exact hd
 | some v =>
  show (if v < 0 then (v + (n:Int)).toNat else min v.toNat n) ≤ n
  by_cases hv:v < 0
  ·rw [if_pos hv];omega
  ·rw [if_neg hv];exact Nat.min_le_right _ _
theorem clip_eq (v:Int) (n d:Nat):(if v < 0 then max (v + (n:Int)) 0 else min v (n:Int)) = ((sIx n d (some v):Nat):Int):=by
 show (if v < 0 then max (v + (n:Int)) 0 else min v (n:Int)) = (((if v < 0 then (v + (n:Int)).toNat else min v.toNat n):Nat):Int)
 by_cases hv:v < 0
 ·simp only [if_pos hv];omega
 ·simp only [if_neg hv];omega
theorem adjust_gen (lo hi:Option Int) (n:Nat):Builtin.Slice.sliceAdjust lo hi 1 (n:Int) = (((sIx n 0 lo:Nat):Int),((sIx n n hi:Nat):Int)):=by
 have h1:¬ ((1:Int) < 0):=by omega
 unfold Builtin.Slice.sliceAdjust
 simp only [h1,if_false]
 refine Prod.ext ?_ ?_
 ·cases lo with
  | none=>rfl
  | some v=>exact clip_eq v n 0
 ·cases hi with
  | none=>rfl
  | some v=>exact clip_eq v n n
theorem places_gen (i j:Nat):Builtin.Slice.slicePlaces (i:Int) (j:Int) 1 = j - i:=by
 unfold Builtin.Slice.slicePlaces
 have h1:(1:Int) > 0:=by omega
 simp only [h1,if_true,Int.ediv_one]
 split <;> omega
theorem slicePart_ {v:Value} {o:Option Int} {Q:Option Int → Shared → Prop} (p:IsPart v o) (h:Q o s):wpAny (model prog w) A (Builtin.Slice.slicePartIndex v) Q E s:=by
 cases p with
 | none=>exact slicePart_none h
 | int i t=>exact slicePart_int h
theorem sliceApplied_gen {sl:Addr} {vl vu:Value} {lo hi:Option Int} {n:Nat} {Q:Int × Int × Nat → Shared → Prop} (hs:s.heap.IsSliceOf sl vl vu .none) (pl:IsPart vl lo) (pu:IsPart vu hi)
  (h:Q (((sIx n 0 lo:Nat):Int),1,sIx n n hi - sIx n 0 lo) s):wpAny (model prog w) A (Builtin.Slice.sliceApplied (.ref sl) (pure (n:Int))) Q E s:=by
 obtain ⟨os,hos,hcs,hds⟩:=id hs
 unfold Builtin.Slice.sliceApplied Builtin.Slice.sliceFields
 refine wpAny_bind (wpAny_bind (wpAny_field hos hds (x:=vl) rfl (wpAny_bind (wpAny_field hos hds (x:=vu) rfl (wpAny_bind (wpAny_field hos hds (x:=.none) rfl (wpAny_pure ?_)))))))
 refine wpAny_bind (slicePart_none ?_)
 show wpAny _ _ (if ((1:Int) == 0) = true then _ else _) _ _ s
 rw [if_neg (by decide)]
 refine wpAny_bind (slicePart_ pl (wpAny_bind (slicePart_ pu (wpAny_bind (wpAny_pure ?_)))))
 show wpAny _ _ (match Builtin.Slice.sliceAdjust lo hi 1 (n:Int) with | (lo,hi)=>pure (lo,(1:Int),Builtin.Slice.slicePlaces lo hi 1)) _ _ s
 rw [adjust_gen lo hi n]
 show wpAny _ _ (pure (((sIx n 0 lo:Nat):Int),(1:Int),Builtin.Slice.slicePlaces ((sIx n 0 lo:Nat):Int) ((sIx n n hi:Nat):Int) 1)) _ _ s
 rw [places_gen]
 exact wpAny_pure h
theorem pick_gen (xs:Array Value) (i k:Nat):((List.range k).filterMap fun (m:Nat)=>xs[((i:Int) + (m:Int) * 1).toNat]?).toArray = ((xs.toList.drop i).take k).toArray:=by
 have e:(fun (m:Nat)=>xs[((i:Int) + (m:Int) * 1).toNat]?) = fun m=>xs[i + m]?:=by
  funext m
  have:((i:Int) + (m:Int) * 1).toNat = i + m:=by omega
  rw [this]
 rw [e]
 have:=pick_run xs i k
 rw [List.filterMap_map] at this
 have e2:((fun x=>xs[x]?) ∘ fun x=>i + x) = fun m=>xs[i + m]?:=rfl
 rw [e2] at this
 rw [this]
theorem getItem_tuple_cut {t sl:Addr} {items:Array Value} {vl vu:Value} {lo hi:Option Int} {Q:Value → Shared → Prop} (ht:IsTup s.heap t items) (hs:s.heap.IsSliceOf sl vl vu .none) (pl:IsPart vl lo) (pu:IsPart vu hi)
  (hw:¬ (sIx items.size 0 lo = 0 ∧ sIx items.size items.size hi = items.size))
  (h:Q (.ref s.heap.objs.size) { s with heap:=s.heap.push { cls:=.type "tuple", data:=.seq ((items.toList.drop (sIx items.size 0 lo)).take (sIx items.size items.size hi - sIx items.size 0 lo)).toArray } })
  (hsz:items.size ≤ sizeLine):wpAny (model prog w) A (getItem (.ref t) (.ref sl)) Q E s:=by
 have htake:sizeOk (.seq ((items.toList.drop (sIx items.size 0 lo)).take (sIx items.size items.size hi - sIx items.size 0 lo)).toArray):=by
  show ((items.toList.drop (sIx items.size 0 lo)).take (sIx items.size items.size hi - sIx items.size 0 lo)).toArray.size ≤ sizeLine
  rw [List.size_toArray,List.length_take,List.length_drop,Array.length_toList]
  omega
 have hj:sIx items.size items.size hi ≤ items.size:=sIx_le _ _ (Nat.le_refl _) hi
 obtain ⟨os,hos,hcs,hds⟩:=id hs
 have hTs:s.TypeIs (.ref sl) "slice" := ⟨os,hos,hcs⟩
 unfold getItem
 try with_reducible refine wpAny_holding ?_
 first | refine wpAny_bind (wpAny_pure ?_) | skip
 refine wpAny_bind (wpAny_sequenceKey ht.typeIs (by decide) ?_)
 refine wpAny_bind (wpAny_callSpecial?_slot (name:=Str.ofString "__getitem__") ht.typeIs PyProof.Rows.slot_tuple_getitem
  (wpAny_call_entry PyProof.Rows.slot_tuple_getitem ht.typeIs entry_tuple_getitem ?_ (args_tuple_getitem _ _)))
 show wpAny _ _ (Builtin.Tuple.tupleItemsOf (.ref t) >>= _) _ _ s
 refine wpAny_bind (tupleItemsOf_ ht ?_)
 refine wpAny_bind (wpAny_typeOf hTs ?_)
 rw [if_pos (by decide)]
 refine wpAny_bind (sliceApplied_gen hs pl pu ?_)
 have hno:¬ ((((sIx items.size 0 lo:Nat):Int) == 0 && (1:Int) == 1 && (sIx items.size items.size hi - sIx items.size 0 lo) == items.size) = true):=by
  intro q
  rw [Bool.and_eq_true,Bool.and_eq_true] at q
  have q1:((sIx items.size 0 lo:Nat):Int) = 0:=eq_of_beq q.1.1
  have q2:sIx items.size items.size hi - sIx items.size 0 lo = items.size:=eq_of_beq q.2
  exact hw ⟨by omega,by omega⟩
 show wpAny _ _ (if (((sIx items.size 0 lo:Nat):Int) == 0 && (1:Int) == 1 && (sIx items.size items.size hi - sIx items.size 0 lo) == items.size) = true then _ else _) _ _ s
 rw [if_neg hno,pick_gen]
 first
  | exact wpAny_bind (m:=Builtin.Tuple.tupleExact _) (wpAny_newObj_type (wpAny_pure ⟨_,rfl,wpAny_pure h⟩) htake)
  | exact wpAny_bind (m:=Builtin.Tuple.tupleExact _) (wpAny_newObj_type (wpAny_bind (wpAny_pure (wpAny_pure ⟨_,rfl,wpAny_pure h⟩))) htake)
  | exact wpAny_bind (wpAny_bind (m:=Builtin.Tuple.tupleExact _) (wpAny_newObj_type (wpAny_pure (wpAny_pure ⟨_,rfl,wpAny_pure h⟩)) htake))
  | exact wpAny_bind (wpAny_bind (m:=Builtin.Tuple.tupleExact _) (wpAny_newObj_type (wpAny_pure ⟨_,rfl,wpAny_pure h⟩) htake))
end
end HT
namespace L2
open PySem PySem.Spec PyProof.Rows
abbrev TO:=St → Hp → (Option Int → Hp → Prop) → Prop
def PO (X:Cx) (e:Option Expr) (t:TO):Prop :=
 ∀ (pins:List (Addr × Obj)) (s:Shared) (σ:St) (H:Hp) (Q:Option Int → Hp → Prop),Inv X pins σ H s → t σ H Q →
  wpAny (model X.prog X.w) X.A (evalPart e X.env) (fun u s'=>∃ o H',Inv X pins σ H' s' ∧ IsPart u o ∧ Q o H') X.xe s
def tNoPart:TO:=fun _ H Q=>Q none H
def tPart (t:TE):TO:=fun σ H Q=>t σ H fun x H1=>∃ i,x = .int i ∧ Q (some i) H1
section
variable {X:Cx} {e:Expr} {te:TE} {lo hi:Option Expr} {tl th:TO} {pos p2:Pos}
theorem po_none:PO X none tNoPart:=by
 intro pins s σ H Q I h
 rw [evalPart_none]
 exact wpAny_pure ⟨none,H,I,.none,h⟩
theorem po_some (h:PE X e te):PO X (some e) (tPart te):=by
 intro pins s σ H Q I hw
 rw [evalPart_some]
 refine thn (h pins s σ H _ I hw) fun u s1 ⟨x,H1,I1,r1,q1⟩=>?_
 obtain ⟨i,rfl,q⟩:=q1
 obtain ⟨t,rfl⟩:=r1
 exact ⟨some i,H1,I1,.int i t,q⟩
def SlR (X:Cx) (r:V → Option Int → Option Int → Hp → VK → Prop):Prop :=
 ∀ (pins:List (Addr × Obj)) (s:Shared) (σ:St) (H:Hp) (x:V) (v vl vu:Value) (lo hi:Option Int) (sl:Addr) (Q:VK),Inv X pins σ H s → RelV x v → s.heap.IsSliceOf sl vl vu .none → IsPart vl lo → IsPart vu hi → r x lo hi H Q →
  ∃ T id,typeLookup (.type T) "__getitem__" = pure (some (.builtin id)) ∧ s.TypeIs v T ∧ wpAny (model X.prog X.w) X.A (getItem v (.ref sl)) (EP X pins σ Q) X.xe s
theorem SlR.or {r r':V → Option Int → Option Int → Hp → VK → Prop} (h:SlR X r) (h':SlR X r'):SlR X (fun x lo hi H Q=>r x lo hi H Q ∨ r' x lo hi H Q):=by
 intro pins s σ H x v vl vu lo hi sl Q I rx hs pl pu q
 rcases q with q | q
 ·exact h pins s σ H x v vl vu lo hi sl Q I rx hs pl pu q
 ·exact h' pins s σ H x v vl vu lo hi sl Q I rx hs pl pu q
def tSl (r:V → Option Int → Option Int → Hp → VK → Prop) (te:TE) (tl th:TO):TE:=fun σ H Q=>te σ H fun x H1=>tl σ H1 fun l H2=>th σ H2 fun u H3=>r x l u H3 Q
theorem pe_slice {r:V → Option Int → Option Int → Hp → VK → Prop} (hr:SlR X r) (he:PE X e te) (hl:PO X lo tl) (hu:PO X hi th):PE X (.Subscript e (.Slice lo hi none p2) pos) (tSl r te tl th):=by
 intro pins s σ H Q I h
 refine Subscript_ (thn (he pins s σ H _ I h) fun v s1 ⟨x,H1,I1,r1,q1⟩=>?_)
 refine wpAny_Slice (thn (hl pins s1 σ H1 _ I1 q1) fun vl s2 ⟨l,H2,I2,pl,q2⟩=>thn (hu pins s2 σ H2 _ I2 q2) fun vu s3 ⟨u,H3,I3,pu,q3⟩=>?_)
 rw [evalPart_none]
 refine wpAny_pure ?_
 have I4:Inv X pins σ H3 { s3 with heap:=s3.heap.push { cls:=.type "slice", data:=.fields #[vl,vu,.none] } }:=I3.kept (t':=s3.toks) fun b ob q=>Heap.get?_push_of_some _ q
 obtain ⟨T,id,hT,ht,hg⟩:=hr pins { s3 with heap:=s3.heap.push { cls:=.type "slice", data:=.fields #[vl,vu,.none] } } σ H3 x v vl vu l u s3.heap.objs.size Q I4 r1 (Heap.IsSliceOf.new ..) pl pu q3
 show wpAny (model X.prog X.w) X.A (subscriptTail e (.Slice lo hi none p2) v (.ref s3.heap.objs.size)) (EP X pins σ Q) X.xe { s3 with heap:=s3.heap.push { cls:=.type "slice", data:=.fields #[vl,vu,.none] } }
 exact tail_any (ops:=[.ref s3.heap.objs.size,v]) ht hT hg (by with_unfolding_all rfl)
def cutV (xs:List V) (lo hi:Option Int):List V:=(xs.drop (HT.sIx xs.length 0 lo)).take (HT.sIx xs.length xs.length hi - HT.sIx xs.length 0 lo)
theorem cutV_length (xs:List V) (lo hi:Option Int):(cutV xs lo hi).length ≤ xs.length:=by
 unfold cutV
 rw [List.length_take,List.length_drop]
 omega
def rSlT (K:PySem.W.Frag):V → Option Int → Option Int → Hp → VK → Prop:=fun x lo hi H Q=>∃ a xs,x = .ref a ∧ SqT K H a xs ∧
 ¬ (HT.sIx xs.length 0 lo = 0 ∧ HT.sIx xs.length xs.length hi = xs.length) ∧ ∀ p,H p = none → Q (.ref p) (upd H p (.tup (cutV xs lo hi)))
theorem sl_tup:SlR X (rSlT X.K):=by
 intro pins s σ H x v vl vu lo hi sl Q I rx hs pl pu h
 obtain ⟨a,xs,rfl,hx,hw,q⟩:=h
 cases rx
 obtain ⟨its,r,ht,hz⟩:=I.tuple hx
 have hlen:its.toArray.size = xs.length:=by rw [List.size_toArray];exact r.length.symm
 refine ⟨"tuple", _,PyProof.Rows.slot_tuple_getitem.lookup,ht.typeIs,?_⟩
 refine HT.getItem_tuple_cut ht hs pl pu (by rw [hlen];exact hw) ?_ (by rw [hlen];exact hz)
 rw [hlen]
 refine ⟨.ref s.heap.objs.size,_,I.laid (t':=s.toks) (o:=.tup (cutV xs lo hi)) (fun b ob q=>Heap.get?_push_of_some _ q) (Nat.le_refl _) ?_,rfl,q _ (I.hok.fresh (Nat.le_refl _))⟩
 exact ⟨Nat.le_trans (cutV_length xs lo hi) hz,_,(r.drop (HT.sIx xs.length 0 lo)).take (HT.sIx xs.length xs.length hi - HT.sIx xs.length 0 lo),IsTup.new _ _⟩
def rCatT (K:PySem.W.Frag):R2:=fun x y H Q=>∃ a b xs ys,x = .ref a ∧ y = .ref b ∧ SqT K H a xs ∧ SqT K H b ys ∧ xs ≠ [] ∧ xs.length + ys.length ≤ sizeLine ∧
 (ys = [] → Q (.ref a) H) ∧ (ys ≠ [] → ∀ p,H p = none → Q (.ref p) (upd H p (.tup (xs ++ ys))))
theorem Vals.nil_iff {xs:List V} {us:List Value} (r:Vals xs us):us = [] ↔ xs = []:=by
 cases r with
 | nil=>simp
 | cons _ _=>simp
theorem op_catT:OpR X (binaryOp .Add) (rCatT X.K):=by
 intro pins s σ H x y v u Q I rx ry h
 obtain ⟨a,b,xs,ys,rfl,rfl,ha,hb,hx,hz,q1,q2⟩:=h
 cases rx
 cases ry
 obtain ⟨its,r1,p1,_⟩:=I.tuple ha
 obtain ⟨its2,r2,p2,_⟩:=I.tuple hb
 refine HT.cat_tup p1 p2 (fun z=>hx (r1.nil_iff.mp z)) (fun z=>⟨.ref a,H,I,rfl,q1 (r2.nil_iff.mp z)⟩) (fun z=>?_) (by rw [← r1.length,← r2.length];exact hz)
 refine ⟨.ref s.heap.objs.size,_,I.laid (t':=s.toks) (o:=.tup (xs ++ ys)) (fun b ob q=>Heap.get?_push_of_some _ q) (Nat.le_refl _) ?_,rfl,q2 (fun w=>z (r2.nil_iff.mpr w)) _ (I.hok.fresh (Nat.le_refl _))⟩
 exact ⟨by rw [List.length_append];exact hz,_,r1.append r2,IsTup.new _ _⟩
end
end L2
namespace L2
open PySem PySem.Spec PyProof.Rows
def ixN (n:Nat) (i:Int):Option Nat:=if 0 ≤ i then (if i < n then some i.toNat else none) else if -(n:Int) ≤ i then some (i + n).toNat else none
def atI {α:Type} (xs:List α) (i:Int):Option α:=(ixN xs.length i).bind fun j=>xs[j]?
theorem ixN_seq {n:Nat} {i:Int} {j:Nat} (h:ixN n i = some j):seqIndex? i n = some j ∧ j < n ∧ -(n:Int) ≤ i ∧ i < n:=by
 unfold ixN at h
 by_cases h0:0 ≤ i
 ·rw [if_pos h0] at h
  by_cases h1:i < n
  ·rw [if_pos h1] at h
   have e:i.toNat = j:=Option.some.inj h
   exact ⟨by rw [seqIndex_of h0 h1,e],by omega,by omega,h1⟩
  ·rw [if_neg h1] at h;cases h
 ·rw [if_neg h0] at h
  by_cases h1:-(n:Int) ≤ i
  ·rw [if_pos h1] at h
   have e:(i + n).toNat = j:=Option.some.inj h
   exact ⟨by rw [seqIndex_neg (by omega) h1,e],by omega,h1,by omega⟩
  ·rw [if_neg h1] at h;cases h
theorem atI_get {α:Type} {xs:List α} {i:Int} {v:α} (h:atI xs i = some v):∃ j,seqIndex? i xs.length = some j ∧ xs[j]? = some v ∧ j < xs.length ∧ -(xs.length:Int) ≤ i ∧ i < xs.length:=by
 unfold atI at h
 cases e:ixN xs.length i with
 | none=>rw [e] at h;cases h
 | some j =>
  rw [e] at h
  obtain ⟨h1,h2,h3,h4⟩:=ixN_seq e
  exact ⟨j,h1,h,h2,h3,h4⟩
def PlainIx (b:Expr):Prop:=∀ o i,subscripted b false o i = operate [o,i] (getItem o i)
def IxR (X:Cx) (r:R2):Prop :=
 ∀ (value slice:Expr) (pins:List (Addr × Obj)) (s:Shared) (σ:St) (H:Hp) (x y:V) (v u:Value) (Q:VK),Inv X pins σ H s → RelV x v → RelV y u → r x y H Q →
  subscripted slice false v u = operate [v,u] (getItem v u) → wpAny (model X.prog X.w) X.A (subscriptTail value slice v u) (EP X pins σ Q) X.xe s
def MtR (X:Cx) (id:String) (r:V → List V → Hp → VK → Prop):Prop :=
 ∀ (pins:List (Addr × Obj)) (s:Shared) (σ:St) (H:Hp) (x:V) (xs:List V) (v:Value) (us:List Value) (Q:VK),Inv X pins σ H s → RelV x v → Vals xs us → r x xs H Q →
  wpAny (model X.prog X.w) X.A (call (.builtin id) (v :: us)) (EP X pins σ Q) X.xe s
section
variable {X:Cx} {a b:Expr} {ta tb:TE} {pos:Pos}
theorem IxR.or {r r':R2} (h:IxR X r) (h':IxR X r'):IxR X (fun x y H Q=>r x y H Q ∨ r' x y H Q):=by
 intro value slice pins s σ H x y v u Q I rx ry q hs
 rcases q with q | q
 ·exact h value slice pins s σ H x y v u Q I rx ry q hs
 ·exact h' value slice pins s σ H x y v u Q I rx ry q hs
theorem pe_ix {r:R2} (hr:IxR X r) (ha:PE X a ta) (hb:PE X b tb) (hs:PlainIx b):PE X (.Subscript a b pos) (tOp r ta tb):=by
 intro pins s σ H Q I h
 exact Subscript_ (binT ha hb I h fun v u s2 x y H2 I2 rx ry q=>hr a b pins s2 σ H2 x y v u Q I2 rx ry q (hs _ _))
def rIxL (K:PySem.W.Frag):R2:=fun x y H Q=>∃ p xs i v,x = .ref p ∧ y = .int i ∧ SqL K H p xs ∧ atI xs i = some v ∧ Q v H
def rIxT (K:PySem.W.Frag):R2:=fun x y H Q=>∃ p xs i v,x = .ref p ∧ y = .int i ∧ SqT K H p xs ∧ atI xs i = some v ∧ Q v H
theorem ix_list:IxR X (rIxL X.K):=by
 intro value slice pins s σ H x y v u Q I rx ry h hs
 obtain ⟨p,xs,i,z,rfl,rfl,hq,he,q⟩:=h
 cases rx
 obtain ⟨t,rfl⟩:=ry
 obtain ⟨its,r,pl,hz⟩:=I.list hq
 obtain ⟨j,h1,h2,h3,h4,h5⟩:=atI_get he
 obtain ⟨w,ew,rw'⟩:=r.get h2
 have hl:=r.length
 have hn:=line63
 have fin:EP X pins σ Q w s:=⟨z,H,I,rw',q⟩
 by_cases h0:0 ≤ i
 ·have hj:i.toNat = j:=by
   rw [seqIndex_of h0 h5] at h1
   exact Option.some.inj h1
  exact item_listR pl.isList h0 (by omega) (by rw [hj];simpa using ew) fin hs
 ·have hj:(i + (its.toArray.size:Int)).toNat = j:=by
   rw [seqIndex_neg (by omega) h4] at h1
   rw [List.size_toArray,← hl]
   exact Option.some.inj h1
  exact subscriptTail_builtinR (x:=w) pl.isList.typeIs slot_list_getitem.lookup
   (wpAny_getItem_list_neg (Q:=fun r s'=>r = w ∧ EP X pins σ Q r s') pl.isList (by omega) (by rw [List.size_toArray] <;> omega) (by omega) (by rw [hj];simpa using ew) ⟨rfl,fin⟩) hs
theorem ix_tup:IxR X (rIxT X.K):=by
 intro value slice pins s σ H x y v u Q I rx ry h hs
 obtain ⟨p,xs,i,z,rfl,rfl,hq,he,q⟩:=h
 cases rx
 obtain ⟨t,rfl⟩:=ry
 obtain ⟨its,r,pl,hz⟩:=I.tuple hq
 obtain ⟨j,h1,h2,h3,h4,h5⟩:=atI_get he
 obtain ⟨w,ew,rw'⟩:=r.get h2
 have hl:=r.length
 have hn:=line63
 have fin:EP X pins σ Q w s:=⟨z,H,I,rw',q⟩
 exact subscriptTail_builtinR (x:=w) pl.typeIs slot_tuple_getitem.lookup
  (getItem_tuple (j:=j) (Q:=fun r s'=>r = w ∧ EP X pins σ Q r s') pl (by omega) (by omega) (by rw [List.size_toArray,← hl];exact h1) (by simpa using ew) ⟨rfl,fin⟩) hs
theorem slice_bounds (lo hi:Option Int) (n:Nat):(sliceBounds lo hi none n).1 = ((HT.sIx n 0 lo:Nat):Int) ∧ (sliceBounds lo hi none n).2.1 = ((HT.sIx n n hi:Nat):Int) ∧ (sliceBounds lo hi none n).2.2 = 1:=by
 refine ⟨?_,?_,rfl⟩
 ·cases lo with
  | none=>simp [sliceBounds,HT.sIx]
  | some i =>
   simp only [sliceBounds,HT.sIx,Option.getD_none,show (1:Int) > 0 by decide,if_true]
   by_cases h:i < 0
   ·simp only [h,if_true] <;> omega
   ·simp only [h,if_false] <;> omega
 ·cases hi with
  | none=>simp [sliceBounds,HT.sIx]
  | some i =>
   simp only [sliceBounds,HT.sIx,Option.getD_none,show (1:Int) > 0 by decide,if_true]
   by_cases h:i < 0
   ·simp only [h,if_true] <;> omega
   ·simp only [h,if_false] <;> omega
theorem slicePick_cut (its:List Value) (lo hi:Option Int):slicePick its.toArray lo hi none = ((its.drop (HT.sIx its.length 0 lo)).take (HT.sIx its.length its.length hi - HT.sIx its.length 0 lo)).toArray:=by
 obtain ⟨h1,h2,h3⟩:=slice_bounds lo hi its.toArray.size
 unfold slicePick
 rw [h1,h2,h3]
 simp only [sliceRange_one,pick_run,List.size_toArray] <;> rfl
def rSlL (K:PySem.W.Frag):V → Option Int → Option Int → Hp → VK → Prop:=fun x lo hi H Q=>∃ a xs,x = .ref a ∧ SqL K H a xs ∧ ∀ p,H p = none → Q (.ref p) (upd H p (.lst (cutV xs lo hi)))
theorem sl_list:SlR X (rSlL X.K):=by
 intro pins s σ H x v vl vu lo hi sl Q I rx hs pl pu h
 obtain ⟨a,xs,rfl,hx,q⟩:=h
 cases rx
 obtain ⟨its,r,ht,hz⟩:=I.list hx
 have hlen:=r.length
 refine ⟨"list", _,slot_list_getitem.lookup,ht.isList.typeIs,?_⟩
 refine wpAny_getItem_list_slice ht.isList hs pl pu .none (by simp) ?_ (by rw [List.size_toArray] <;> omega)
 rw [slicePick_cut,← hlen]
 refine ⟨.ref s.heap.objs.size,_,I.laid (t':=s.toks) (o:=.lst (cutV xs lo hi)) (fun b ob q=>Heap.get?_push_of_some _ q) (Nat.le_refl _) ?_,rfl,q _ (I.hok.fresh (Nat.le_refl _))⟩
 exact ⟨Nat.le_trans (cutV_length xs lo hi) hz,_,0,(r.drop (HT.sIx xs.length 0 lo)).take (HT.sIx xs.length xs.length hi - HT.sIx xs.length 0 lo),Heap.get?_push_size _ rfl⟩
theorem call_len_seq:CallR X (.builtin "len") (fun xs H Q=>∃ p ys,xs = [.ref p] ∧ (SqL X.K H p ys ∨ SqT X.K H p ys) ∧ Q (.int ys.length) H):=by
 intro pins s σ H xs us Q I r h
 obtain ⟨p,ys,rfl,hq,q⟩:=h
 obtain ⟨u,rfl,rx⟩:=vals1 r
 cases rx
 have hn:=line63
 rcases hq with hq | hq
 ·obtain ⟨its,r',pl,hz⟩:=I.list hq
  have hlen:=r'.length
  exact Calls.call_len_list pl.isList (by simp only [List.size_toArray] <;> omega) ⟨.int ys.length,H,I.tok _,⟨s.toks + 1,by rw [List.size_toArray,hlen]⟩,q⟩
 ·obtain ⟨its,r',pl,hz⟩:=I.tuple hq
  have hlen:=r'.length
  exact len_tuple pl (by simp only [List.size_toArray] <;> omega) ⟨.int ys.length,H,I.tok _,⟨s.toks + 1,by rw [List.size_toArray,hlen]⟩,q⟩
theorem call_list_of:CallR X (.type "list") (fun xs H Q=>∃ p ys,xs = [.ref p] ∧ (SqL X.K H p ys ∨ SqT X.K H p ys) ∧ ∀ l,H l = none → Q (.ref l) (upd H l (.lst ys))):=by
 intro pins s σ H xs us Q I r h
 obtain ⟨p,ys,rfl,hq,q⟩:=h
 obtain ⟨u,rfl,rx⟩:=vals1 r
 cases rx
 have fin:∀ (its:List Value),Vals ys its → ys.length ≤ sizeLine → ∀ (h':Heap) (c':Nat),(∀ b o',s.heap.get? b = some o' → h'.get? b = some o') →
   h'.get? s.heap.objs.size = some { cls:=.type "list", dict:=none,data:=.seq its.toArray c',slots:=#[] } → EP X pins σ Q (.ref s.heap.objs.size) { s with heap:=h' }:=fun its r' hz h' c' kp e =>
  ⟨.ref s.heap.objs.size,_,I.laid (t':=s.toks) kp (Nat.le_refl _) (show ObjOk X.prog X.w _ h' _ (.lst ys) from ⟨hz,its,c',r',e⟩),rfl,q _ (I.hok.fresh (Nat.le_refl _))⟩
 rcases hq with hq | hq
 ·obtain ⟨its,r',pl,hz⟩:=I.list hq
  have hlen:=r'.length
  obtain ⟨o,ho,hc,n,hd⟩:=pl.isList
  exact call_list_seq p (.inl rfl) ho hc hd (fun h' c' kp e=>fin its r' hz h' c' kp e) (by simp only [List.size_toArray] <;> omega)
 ·obtain ⟨its,r',pl,hz⟩:=I.tuple hq
  have hlen:=r'.length
  obtain ⟨o,ho,hc,n,hd⟩:=pl
  exact call_list_seq p (.inr rfl) ho hc hd (fun h' c' kp e=>fin its r' hz h' c' kp e) (by simp only [List.size_toArray] <;> omega)
theorem call_tuple_of:CallR X (.type "tuple") (fun xs H Q=>∃ p ys,xs = [.ref p] ∧ ((SqL X.K H p ys ∧ ∀ l,H l = none → Q (.ref l) (upd H l (.tup ys))) ∨ (SqT X.K H p ys ∧ Q (.ref p) H))):=by
 intro pins s σ H xs us Q I r h
 obtain ⟨p,ys,rfl,h⟩:=h
 obtain ⟨u,rfl,rx⟩:=vals1 r
 cases rx
 rcases h with ⟨hq,q⟩ | ⟨hq,q⟩
 ·obtain ⟨its,r',pl,hz⟩:=I.list hq
  have hlen:=r'.length
  refine call_tuple_list pl.isList (fun h' kp=>?_) (by simp only [List.size_toArray] <;> omega)
  have I1:Inv X pins σ H { s with heap:=h' }:=I.kept (t':=s.toks) kp
  have I2:Inv X pins σ (upd H h'.objs.size (.tup ys)) { s with heap:=h'.push { cls:=.type "tuple", data:=.seq its.toArray } } :=
   I1.laid (t':=s.toks) (fun b o e=>Heap.get?_push_of_some _ e) (Nat.le_refl _) (show ObjOk X.prog X.w _ _ _ (.tup ys) from ⟨hz,its,r',IsTup.new _ _⟩)
  exact ⟨.ref h'.objs.size,_,I2,rfl,q _ (I1.hok.fresh (Nat.le_refl _))⟩
 ·obtain ⟨its,r',pl,hz⟩:=I.tuple hq
  exact call_tuple_same pl ⟨.ref p,H,I,rfl,q⟩
def tyV (K:PySem.W.Frag) (T:String) (x:V) (H:Hp):Prop:=match x with
 | .str _=>T = "str"
 | .int _=>T = "int"
 | .ref p=>(T = "list" ∧ ∃ xs,SqL K H p xs) ∨ (T = "tuple" ∧ ∃ o,K.lookup p = some o ∧ o.cls = .type "tuple" ∧ o.dict = none) ∨
   (T = "dict" ∧ ((∃ kvs,H p = some (.dK kvs)) ∨ ∃ kvs,H p = some (.dT kvs))) ∨ (T = "set" ∧ ∃ S n,H p = some (.set S n))
 | _=>False
theorem tyV_is {pins:List (Addr × Obj)} {σ:St} {H:Hp} {s:Shared} {T:String} {x:V} {v:Value} (I:Inv X pins σ H s) (r:RelV x v) (ty:tyV X.K T x H) :
  s.TypeIs v T ∧ ∀ a,v = .ref a → ∃ ob,s.heap.get? a = some ob ∧ ob.dict = none:=by
 cases x with
 | str z =>
  obtain ⟨t,rfl⟩:=r
  cases (show T = "str" from ty)
  exact ⟨typeIs_str s z t,fun _ e=>nomatch e⟩
 | int i =>
  obtain ⟨t,rfl⟩:=r
  cases (show T = "int" from ty)
  exact ⟨typeIs_int s i t,fun _ e=>nomatch e⟩
 | ref p =>
  cases r
  rcases ty with ⟨rfl,xs,hq⟩ | ⟨rfl,o,hk,hc,hd⟩ | ⟨rfl,hk⟩ | ⟨rfl,S,n,hk⟩
  ·obtain ⟨its,_,pl,_⟩:=I.list hq
   refine ⟨pl.isList.typeIs,fun a e=>?_⟩
   cases e
   obtain ⟨o,n,e,c,hd,_⟩:=pl
   exact ⟨o,e,hd⟩
  ·refine ⟨⟨o,I.kIn p o hk,hc⟩,fun a e=>?_⟩
   cases e
   exact ⟨o,I.kIn _ o hk,hd⟩
  ·have z:∃ o,s.heap.get? p = some o ∧ o.ExactDict:=by
    rcases hk with ⟨kvs,hk⟩ | ⟨kvs,hk⟩
    ·obtain ⟨_,_,_,_,o,_,_,e,ex,_⟩:=I.hok p _ hk
     exact ⟨o,e,ex⟩
    ·obtain ⟨_,_,_,_,o,_,_,e,ex,_⟩:=I.hok p _ hk
     exact ⟨o,e,ex⟩
   obtain ⟨o,e,ex⟩:=z
   refine ⟨⟨o,e,ex.1⟩,fun a e2=>?_⟩
   cases e2
   exact ⟨o,e,ex.2.1⟩
  ·obtain ⟨o,_,_,_,e,ex,_⟩:=I.hok p _ hk
   refine ⟨⟨o,e,ex.1⟩,fun a e2=>?_⟩
   cases e2
   exact ⟨o,e,ex.2.1⟩
 | _=>exact False.elim ty
def tBM (K:PySem.W.Frag) (T:String) (r:V → List V → Hp → VK → Prop) (to:TE) (t:TA):TE:=fun σ H Q=>to σ H fun x H1=>tyV K T x H1 ∧ t σ H1 fun xs H2=>r x xs H2 Q
variable {o e:Expr} {es:List Expr} {to:TE} {t:TA} {name:Str} {apos cpos:Pos} {T id:String} {r:V → List V → Hp → VK → Prop}
theorem pe_bm (pa:PlainAttrs T) (slot:Slot T name id) (hty:typeOf (.builtin id) = pure (.type "method_descriptor")) (hm:MtR X id r) (ho:PE X o to) (ha:PA X (e :: es) t)
  (hbase:attributeBase o name X.env (eval o X.env) = eval o X.env:=by rfl)
  (hfew:((backTo cpos (starEach (e :: es) X.env)).all (fun x=>!x.1) && (backToKw cpos (keywordEach [] X.env)).all (fun x=>x.1.isSome)
   && decide ((e :: es).length + ([]:List Keyword).length + (if ([]:List Keyword).isEmpty then 0 else 1) < 30)) = true:=by rfl)
  (hline:(apos.endLine == cpos.line) = true:=by rfl) (hs:starEach (e :: es) X.env = (false,eval e X.env) :: starEach es X.env:=by rfl) (hplain:(backTo cpos (starEach es X.env)).any (·.1) = false:=by rfl) :
  PE X (.Call (.Attribute o name apos) (e :: es) [] cpos) (tBM X.K T r to t):=by
 intro pins s σ H Q I h
 refine wpAny_Call_method_late hbase hfew hline rfl (thn (ho pins s σ H _ I h) fun v s1 ⟨x,H1,I1,r1,ty,q1⟩=>?_)
 obtain ⟨h1,h2⟩:=tyV_is I1 r1 ty
 refine ⟨T,id,pa,slot,hty,h1,h2,?_⟩
 have hA:=ha cpos pins s1 σ H1 _ I1 q1
 rw [hs] at hA ⊢
 refine Calls.callWith_builtin (by show (false || (backTo cpos (starEach es X.env)).any (·.1)) = false;rw [hplain] <;> rfl) (Calls.evalArgs_plain ?_)
 exact thn hA fun us s2 ⟨vs,H2,I2,r2,q2⟩=>hm pins s2 σ H2 x vs v us Q I2 r1 r2 q2
end
end L2
namespace L2
open PySem PySem.Spec PyProof.Rows
def MtM (X:Cx) (id:String) (r:V → List V → Hp → VK → Prop):Prop :=
 ∀ (pins:List (Addr × Obj)) (s:Shared) (σ:St) (H:Hp) (x:V) (xs:List V) (v:Value) (us:List Value) (Q:VK),Inv X pins σ H s → RelV x v → Vals xs us → r x xs H Q →
  wpAny (model X.prog X.w) X.A (call (.builtin id) (v :: us)) (EP X pins σ Q) X.xe s
theorem Vals.one:∀ {x:V} {us:List Value},Vals [x] us → ∃ u,us = [u] ∧ RelV x u
 | _,_,.cons r .nil=>⟨_,rfl,r⟩
theorem Vals.reverse {xs:List V} {us:List Value} (h:Vals xs us):Vals xs.reverse us.reverse:=by
 induction h with
 | nil=>exact .nil
 | cons r t ih=>rw [List.reverse_cons,List.reverse_cons];exact Vals.append ih (.cons r .nil)
section
variable {X:Cx} {pins:List (Addr × Obj)} {σ:St} {H:Hp} {s:Shared} {l b:Addr} {xs ys zs:List V}
theorem Inv.lset {its its':List Value} {n:Nat} {f:Array Value → Array Value} {t':Nat} (I:Inv X pins σ H s) (hH:H l = some (.lst xs))
  (e:s.heap.get? l = some { cls:=.type "list", data:=.seq its.toArray n }) (hf:f its.toArray = its'.toArray) (hv:Vals ys its') (hz:ys.length ≤ sizeLine) :
  Inv X pins σ (upd H l (.lst ys)) { s with heap:=s.heap.update l (Obj.mapSeq f),toks:=t' }:=by
 have q:=PySem.IsL.update e f
 rw [hf] at q
 refine I.write (x:=l) (e:=l) (by rw [hH];exact trivial) (.inl rfl) (fun b' u hb hu=>(Heap.get?_update_other s.heap (Obj.mapSeq f) (Ne.symm hb)).trans hu) ⟨_,q⟩ ?_
 exact ⟨hz,its',_,hv,q⟩
theorem Inv.lnew {its:List Value} {t':Nat} (I:Inv X pins σ H s) (hv:Vals ys its) (hz:ys.length ≤ sizeLine) :
  Inv X pins σ (upd H s.heap.objs.size (.lst ys)) { s with heap:=s.heap.push { cls:=.type "list", data:=.seq its.toArray },toks:=t' } :=
 I.laid (fun _ _ q=>Heap.get?_push_of_some _ q) (Nat.le_refl _) ⟨hz,its,0,hv,Heap.get?_push_size _ rfl⟩
theorem Inv.fresh (I:Inv X pins σ H s):H s.heap.objs.size = none:=I.hok.fresh (Nat.le_refl _)
theorem Inv.lstM (I:Inv X pins σ H s) (hH:H l = some (.lst xs)):xs.length ≤ sizeLine ∧ ∃ (its:List Value) (n:Nat),Vals xs its ∧ xs.length = its.length ∧ s.heap.get? l = some { cls:=.type "list", data:=.seq its.toArray n }:=by
 obtain ⟨z,its,n,r,e⟩:=I.hok l _ hH
 exact ⟨z,its,n,r,r.length,e⟩
end
section
variable {X:Cx}
def rAppend:V → List V → Hp → VK → Prop:=fun x vs H Q=>∃ l xs y,x = .ref l ∧ vs = [y] ∧ H l = some (.lst xs) ∧ xs.length < sizeLine ∧ Q .non (upd H l (.lst (xs ++ [y])))
theorem mt_append:MtM X "list.append" rAppend:=by
 intro pins s σ H x vs v us Q I rx rv h
 obtain ⟨l,xs,y,rfl,rfl,hH,hz,q⟩:=h
 cases rx
 obtain ⟨u,rfl,ru⟩:=rv.one
 obtain ⟨z,its,n,r,hl,e⟩:=I.lstM hH
 refine call_meets F.slot_list_append ⟨_,e,rfl⟩ F.entry_list_append (F.args_list_append_2 _ _) (PySem.list_append l its.toArray n u (by rw [List.size_toArray];omega)) ⟨e,?_⟩
 refine ⟨.non,_,I.lset (its':=its ++ [u]) hH e (by simp) (r.append (.cons ru .nil)) ?_,rfl,q⟩
 rw [List.length_append,List.length_singleton]
 omega
end
section
variable {prog:Program} {w:World} {A:Around} {E:Value → Shared → Prop} {s:Shared}
set_option maxRecDepth 100000 in
end
section
variable {X:Cx}
end
end L2
namespace Att
open PySem PySem.W PySem.Calls PyProof.Rows
theorem ints_of_wellAll {P:Params} {h:Heap}:∀ (ns:List Int) (vs:List Value),WellAll P h vs (ns.map WData.int) → IntsAre vs ns:=by
 intro ns
 induction ns with
 | nil =>
  intro vs w
  rw [List.map_nil] at w
  cases w
  exact .nil
 | cons n ns ih =>
  intro vs w
  rw [List.map_cons] at w
  cases w with
  | cons a b =>
   cases a
   exact .cons _ _ (ih _ b)
theorem script_of {l:OpenLaw} {n:Nat} (hn:l.most = some n) {P:Params} {h:Heap} {args:List WData} {vals:List Value}
  (hpre:l.row.toRowW.claim.pre args = true) (hwl:WellAll P h vals args) :
  ∃ a vs ns,vals = [Value.ref a] ∧ args = [WData.list (ns.map WData.int)] ∧ h.get? a = some { cls:=.type "list", data:=.seq vs.toArray } ∧ IntsAre vs ns ∧ ns.length ≤ n:=by
 have hsh:WShape.hasAll [] args [.list .int] = true:=(pre_splitW hpre).1
 have hc:l.pre.holds [] { args:=args } = true:=(pre_splitW hpre).2
 obtain ⟨d,r,rfl,h1,h2⟩:=hasAllW_cons hsh
 obtain rfl:=hasAllW_nil h2
 obtain ⟨xs,rfl,h3⟩:=hasW_list h1
 obtain ⟨ns,rfl⟩:=items_int h3
 have hlen:ns.length ≤ n:=by
  unfold OpenLaw.pre at hc
  have h4:(WTm.not (.lt (.lit (.int (n:Int))) (.len (.arg 0)))).holds [] { args:=[.list (ns.map .int)] } = true:=by
   have h4:=(holds_andW hc).1
   rw [hn] at h4
   exact h4
  have h5:=condW_of h4 (w_not (w_lt w_lit (w_len_list (w_arg rfl))))
  rw [List.length_map] at h5
  refine Nat.le_of_not_lt fun q=>?_
  have q':(n:Int) < ((ns.length:Nat):Int):=by omega
  first
   | (rw [decide_eq_true q'] at h5;exact absurd h5 (by decide))
   | (simp at h5;omega)
 cases hwl with
 | cons w1 w2 =>
  cases w2
  cases w1 with
  | list ho hall=>exact ⟨_,_,ns,rfl,rfl,ho,ints_of_wellAll ns _ hall,hlen⟩
theorem post_true (l:OpenLaw) (args:List WData):l.row.toRowW.claim.post args (.bool true) args = true :=
 postW_of (r:=l.row.toRowW) (X:=(true == true))
  (show WShape.has [] (.bool true) .bool = true by first | rfl | decide | simp [WShape.has,WShape.arms,WShape.armsAll])
  (show (WTm.eq .res (.lit (.bool true))).value [] { args:=args,res:=some (.bool true),after:=args } = some (.bool (true == true)) from w_eq_bool (w_res rfl) w_lit) rfl
theorem attach_call {l:OpenLaw} {n:Nat} {q:Program} {loose:List Str} {XP:(Str → Option Value) → Heap → Prop} {YP:World → Heap → Prop} {d:DefRec}
  (hn:l.most = some n) (hdf:d.params.defaults = [])
  (call:∀ (w:World) (s₀ s₁:Shared) (mg mb:Str → Option Value) (fa:Addr) (o:Obj) (pm cd doc:Value) (a:Addr) (vs:List Value) (ns:List Int),
   Ground q loose [] XP w s₀ mg mb s₁.heap → YP w s₁.heap →
   s₁.heap.get? fa = some o → o.data = .func (docDef d.name d.params d.body d.scope pm cd doc) → s₁.heap.CodeRec cd d.name → mg d.name = some (.ref fa) →
   s₁.heap.get? a = some { cls:=.type "list", data:=.seq vs.toArray } → IntsAre vs ns → ns.length ≤ n → s₁.gens = #[] →
   codeAny (model l.prog w) callerA (.call (.ref fa) ⟨[.ref a],[]⟩) (fun r s'=>r = .ok (.ret (.bool true)) ∧ OldK s₁.heap s'.heap ∧ s'.os = s₁.os ∧ AllBare s'.gens) s₁) :
  WalkO q loose XP YP l.row.toRowW d [] (fun f vs=>PySem.call f vs):=by
 intro w s₀ s₁ mg mb G Y fa o pm cd doc dV kV ho hd hcd hD hmg hg args vals as hpre hlay hrd hwl hlo
 obtain rfl:dV = .none:=Dflts.none hD hdf
 obtain rfl:kV = .none:=Dflts.noKw hD
 obtain ⟨a,vs,ns,rfl,rfl,hobj,hints,hlen⟩:=script_of hn hpre hwl
 refine enter_call (codeAny_mono (call w s₀ s₁ mg mb fa o pm cd doc a vs ns G Y ho (fd_plain hd) hcd hmg hobj hints hlen hg) fun r s' hq=>?_)
 obtain ⟨rfl,h2,h3,h4⟩:=hq
 exact ⟨.inl ⟨.bool true,.bool true,[],rfl,fun _=>rfl,.bool true,post_true l _,fun _=>⟨List.Pairwise.nil,fun _ hm=>(nomatch hm)⟩⟩,h2,h3,h4⟩
section
variable {prog:Program} {w:World} {A:Around} {E:Value → Shared → Prop} {s:Shared} {K:Frag}
end
end Att
namespace L2
open PySem PySem.Spec PyProof.Rows
theorem vals_ints:∀ {vs:List Value} {ns:List Int},IntsAre vs ns → Vals (ns.map V.int) vs
 | _,_,.nil=>.nil
 | _,_,.cons n t h=>.cons ⟨t,rfl⟩ (vals_ints h)
def Only (H:Hp):Prop:=∀ b,H b = none ∨ ∃ o xs,H b = some (.frz o (.lst xs))
theorem law_call {P:Program} {w:World} {K:PySem.W.Frag} {mg mb:Str → Option Value} {CX:CXT} {k:Nat} {fa a:Addr} {fd:FuncData} {x:Str} {sp:Sp} {s₁:Shared} {vs:List Value} {ns:List Int}
  (KX:K.In s₁.heap) (hns:s₁.heap.Ns mainGlobals mg) (hb:s₁.heap.Ns builtinsNs mb) (hbb:∀ x:Str,x ≠ "__name__" → mb x = bootBuiltins x) (hlim:s₁.heap.NoLimit) (hg:s₁.gens = #[])
  (ha:s₁.heap.get? a = some { cls:=.type "list", data:=.seq vs.toArray }) (hi:IntsAre vs ns) (hl:ns.length ≤ sizeLine) (hr:Room k callerA)
  (F:∀ base:Heap,K.In base → base.Ns mainGlobals mg → FnOk P w K mg base CX k fa fd [x] sp) (hbind:∀ (s:Shared) (u:Value),BindsTo s fd ⟨[u],[]⟩ [(x,u)])
  (hsp:∀ H:Hp,Only H → SqL K H a (ns.map V.int) → sp [.ref a] H (fun v _=>v = .bl true) fun _ _ _=>False)
  (hCX:∀ H e s',CX [] H s₁ (fun _ _ _=>False) e s' → False) :
  codeAny (model P w) callerA (.call (.ref fa) ⟨[.ref a],[]⟩) (fun r s'=>r = .ok (.ret (.bool true)) ∧ OldK s₁.heap s'.heap ∧ s'.os = s₁.os ∧ AllBare s'.gens) s₁:=by
 have rv:=vals_ints hi
 have lenV:=hi.length
 have core:∀ H:Hp,Only H → SqL K H a (ns.map V.int) → HOk P w H s₁.heap → (∀ b,H b ≠ none → b = a) → (H a ≠ none → K.lookup a = none) →
   codeAny (model P w) callerA (.call (.ref fa) ⟨[.ref a],[]⟩) (fun r s'=>r = .ok (.ret (.bool true)) ∧ OldK s₁.heap s'.heap ∧ s'.os = s₁.os ∧ AllBare s'.gens) s₁:=by
  intro H hO hS hok hA hK
  have base_of:∀ {b:Addr} {o:Obj},s₁.heap.get? b = some o → H b = none → (hidT s₁.heap H).get? b = some o:=fun e n=>hidT_get e n
  have noA:∀ {b:Addr} {o:Obj} {es:Array DictEntry} {ep:Nat},s₁.heap.get? b = some o → o.data = .dict es ep → H b = none:=fun {b o es ep} e d=>by
   cases q:H b with
   | none=>rfl
   | some u =>
    have e':b = a:=hA b (by rw [q];simp)
    subst e'
    rw [ha] at e;cases e
    have d':Data.seq vs.toArray _ = Data.dict es ep:=d
    cases d'
  have nsK:∀ {b:Addr} {m:Str → Option Value},s₁.heap.Ns b m → (hidT s₁.heap H).Ns b m:=fun {b m} ⟨o,es,ep,e,d,r⟩=>⟨o,es,ep,base_of e (noA e d),d,r⟩
  have hKb:K.In (hidT s₁.heap H):=fun b o e=>base_of (KX b o e) (by
   cases q:H b with
   | none=>rfl
   | some u =>
    have e':b = a:=hA b (by rw [q];simp)
    subst e'
    rw [hK (by rw [q];simp)] at e;cases e)
  have hM:Mod K mg (hidT s₁.heap H):=⟨hKb,nsK hns,⟨mb,nsK hb,hbb⟩,let ⟨mc,h1,h2⟩:=hlim;⟨mc,nsK h1,h2⟩⟩
  have e0:Env0 P w K mg (hidT s₁.heap H) callerA [] s₁ H:=⟨rfl,hM,fun b o e=>of_hidT e,Nat.le_of_eq (hidT_size _ _),trivial,fun b hb=>absurd (show b ∈ ([]:List Addr) from hb) (by simp),hok,.of_eq hg⟩
  refine codeAny_mono ((F _ hKb (nsK hns)).run callerA [] s₁ H ⟨[.ref a],[]⟩ [.ref a] [.ref a] _ _ hr e0 (hbind s₁ (.ref a)) (.cons rfl .nil) (hsp H hO hS)) fun r s' h=>?_
  cases r with
  | error e=>exact (hCX H e s' h).elim
  | ok fl =>
   cases fl with
   | next=>exact False.elim h
   | brk=>exact False.elim h
   | cont=>exact False.elim h
   | ret u =>
    obtain ⟨v,H',os,bare,un,hok',r',q⟩:=h
    have q':v = .bl true:=q
    subst q'
    obtain rfl:u = Value.bool true:=r'
    refine ⟨rfl,OldK.of_keep fun b o e=>?_,os,bare⟩
    cases q:H b with
    | none=>exact un.keep b o e q (by intro z;exact absurd (show b ∈ ([]:List Addr) from z) (by simp)) (by simp)
    | some u =>
     rcases hO b with z | ⟨ob,xs,z⟩
     ·rw [q] at z;cases z
     ·have z2:=un.frzs b ob _ z
      obtain ⟨e1,_⟩:=hok b _ z
      obtain ⟨e2,_⟩:=hok' b _ z2
      rw [e] at e1;cases e1
      exact e2
 cases hk:K.lookup a with
 | some o =>
  have e:=KX a o hk
  rw [ha] at e
  cases e
  refine core (fun _=>none) (fun _=>.inl rfl) (.inr ⟨_,vs.toArray,_,hk,rfl,rfl,rfl,by rw [List.size_toArray,lenV];exact hl,by simpa using rv⟩) (fun b u z=>by have z':(none:Option HO) = some u:=z;cases z') (fun b z=>absurd rfl z) fun z=>absurd rfl z
 | none =>
  refine core (fun b=>if b = a then some (.frz { cls:=.type "list", data:=.seq vs.toArray } (.lst (ns.map V.int))) else none) (fun b=>?_) (.inl (.inr ⟨{ cls:=.type "list", data:=.seq vs.toArray },if_pos rfl⟩)) (fun b u z=>?_) (fun b z=>?_) fun _=>hk
  ·by_cases hb:b = a
   ·exact .inr ⟨_,_,if_pos hb⟩
   ·exact .inl (if_neg hb)
  ·by_cases hb:b = a
   ·have z':=(if_pos hb).symm.trans z
    cases z'
    subst hb
    exact ⟨ha,by rw [List.length_map];exact hl,vs,_,rv,ha⟩
   ·have z':=(if_neg hb).symm.trans z
    cases z'
  ·by_cases hb:b = a
   ·exact hb
   ·exact absurd (if_neg hb) z
end L2
namespace L2
open PySem PySem.Spec PyProof.Rows
theorem walk_of {l:PySem.W.OpenLaw} {n k:Nat} {q:Program} {loose:List Str} {XP:(Str → Option Value) → Heap → Prop} {YP:World → Heap → Prop} {d:DefRec} {K:Params → PySem.W.Frag} {CX:World → CXT} {sp:World → Sp} {x:Str}
  (hn:l.most = some n) (hn2:n ≤ sizeLine) (hdf:d.params.defaults = []) (hr:Room k callerA)
  (hY:∀ (w:World) (h:Heap),YP w h → (K w.params).In h)
  (F:∀ (w:World) (mg:Str → Option Value) (fa:Addr) (h:Heap),(K w.params).In h → h.Ns mainGlobals mg → mg d.name = some (.ref fa) →
   ∃ fd:FuncData,(∀ (s:Shared) (u:Value),BindsTo s fd ⟨[u],[]⟩ [(x,u)]) ∧
    ∀ base:Heap,(K w.params).In base → base.Ns mainGlobals mg → FnOk l.prog w (K w.params) mg base (CX w) k fa fd [x] (sp w))
  (hsp:∀ (w:World) (H:Hp) (a:Addr) (ns:List Int),ns.length ≤ n → Only H → SqL (K w.params) H a (ns.map V.int) → sp w [.ref a] H (fun v _=>v = .bl true) fun _ _ _=>False)
  (hCX:∀ (w:World) (H:Hp) (s:Shared) (e:Value) (s':Shared),CX w [] H s (fun _ _ _=>False) e s' → False) :
  PySem.W.WalkO q loose XP YP l.row.toRowW d [] (fun f vs=>PySem.call f vs):=by
 refine Att.attach_call hn hdf fun w s₀ s₁ mg mb fa o pm cd doc a vs ns G Y ho hd hcd hmg hobj hints hlen hg=>?_
 have KX:=hY w _ Y
 obtain ⟨fd,hb,hF⟩:=F w mg fa _ KX G.T.g hmg
 exact law_call KX G.T.g G.T.b G.T.builtins G.T.nolimit hg hobj hints (Nat.le_trans hlen hn2) hr hF hb (fun H hO hS=>hsp w H a ns hlen hO hS) fun H e s'=>hCX w H s₁ e s'
end L2
namespace L2
open PySem PySem.Spec PyProof.Rows
abbrev E0:XK:=fun _ _ _=>False
structure Fun (K:PySem.W.Frag) (x qual:Str) (st:Stmt) (f:Addr) (fd:FuncData):Prop where
 ex:∃ (oc:Value) (od:Option Addr) (kV doc pm:Value) (an:Option Addr) (cdv ct:Value) (osl:Array (Option Value)),
  fd = PySem.W.fnOf x qual (defArgs st) (defBody st) (defScope st) .none kV doc pm an cdv ct ∧ K.lookup f = some ⟨oc,od,.func fd,osl⟩ ∧ PySem.W.codeIn K cdv qual = true
 kp:PySem.W.keepIn K (.ref f) = true
section
variable {P:Program} {w:World} {K:PySem.W.Frag} {mg:Str → Option Value} {base:Heap}
theorem Fun.binds {x qual:Str} {st:Stmt} {f:Addr} {fd:FuncData} {ps:List Str} (F:Fun K x qual st f fd)
  (h:∀ (kV doc pm:Value) (an:Option Addr) (cdv ct:Value) (us:List Value),us.length = ps.length → bindArgs (PySem.W.fnOf x qual (defArgs st) (defBody st) (defScope st) .none kV doc pm an cdv ct) ⟨us,[]⟩ = pure (ps.zip us)):Binds K fd ps []:=by
 obtain ⟨oc,od,kV,doc,pm,an,cdv,ct,osl,rfl,lk,hcd⟩:=F.ex
 exact .all (h kV doc pm an cdv ct)
theorem fun_mk {x qual:Str} {st:Stmt} {f:Addr} {oc:Value} {od an:Option Addr} {osl:Array (Option Value)} {kV doc pm cdv ct:Value} (l:K.lookup f = some ⟨oc,od,.func (PySem.W.fnOf x qual (defArgs st) (defBody st) (defScope st) .none kV doc pm an cdv ct),osl⟩)
  (c:PySem.W.codeIn K cdv qual = true) (k:PySem.W.keepIn K (.ref f) = true):Fun K x qual st f (PySem.W.fnOf x qual (defArgs st) (defBody st) (defScope st) .none kV doc pm an cdv ct):=⟨⟨oc,od,kV,doc,pm,an,cdv,ct,osl,rfl,l,c⟩,k⟩
end
theorem small1000 {n:Nat} (h:n ≤ 1000):n < sizeLine:=Nat.lt_of_le_of_lt h (by decide)
section
variable {X:Cx}
end
def Same (H H':Hp):Prop:=∀ b o,H b = some o → H' b = some o
theorem Same.refl (H:Hp):Same H H:=fun _ _ h=>h
theorem Same.trans {H H1 H2:Hp} (a:Same H H1) (b:Same H1 H2):Same H H2:=fun c o h=>b c o (a c o h)
theorem Same.free {H H':Hp} (e:Same H H') {l:Addr} (h:H' l = Option.none):H l = Option.none:=by
 cases q:H l with
 | none=>rfl
 | some o =>
  rw [e l o q] at h
  cases h
theorem Same.seq {K:PySem.W.Frag} {H H':Hp} {a:Addr} {xs:List V} (e:Same H H') (h:SqL K H a xs):SqL K H' a xs:=by
 rcases h with (h | ⟨o,h⟩) | h
 ·exact .inl (.inl (e _ _ h))
 ·exact .inl (.inr ⟨o,e _ _ h⟩)
 ·exact .inr h
end L2
set_option maxHeartbeats 4000000
namespace L2
open PySem PySem.Spec PyProof.Rows
section
variable {X:Cx}
theorem op_mulR:OpR X (binaryOp .Mult) (rI IntMulOk fun i j=>.int (i * j)):=opI fun _ _ _ _ _ _ _ hc q=>mul_int q hc
def CDivG (_ j:Int):Prop:=j ≠ 0 ∧ j.natAbs.log2 < 9000
theorem op_fdivG:OpR X (binaryOp .FloorDiv) (rI CDivG fun i j=>.int (i.fdiv j)):=opI fun _ _ _ _ _ _ _ hc q=>floordiv_int hc.1 q (.inl (PyProof.noPylong_of_log2 hc.2))
theorem pe_tyn {n:String} {x:Str} {pos:Pos} (hg:Gl X x) (hm:X.mg x = none) (hv:bootBuiltins x = some (.type n)) (hn:x ≠ "__name__" := by decide) (hd:(x == ("__debug__" : Str)) = false:=by decide):PE X (.Name x pos) (tC (.ty n)) :=
 pe_bltn hg hm hv rfl hn hd
end
theorem bt_abs:bootBuiltins "abs" = some (.builtin "abs"):=by decide +kernel
theorem bt_all:bootBuiltins "all" = some (.builtin "all"):=by decide +kernel
theorem bt_isinstance:bootBuiltins "isinstance" = some (.builtin "isinstance"):=by decide +kernel
theorem bt_len:bootBuiltins "len" = some (.builtin "len"):=by decide +kernel
theorem bt_int:bootBuiltins "int" = some (.type "int"):=by decide +kernel
theorem bt_bool:bootBuiltins "bool" = some (.type "bool"):=by decide +kernel
theorem bt_tuple:bootBuiltins "tuple" = some (.type "tuple"):=by decide +kernel
theorem bt_list:bootBuiltins "list" = some (.type "list"):=by decide +kernel
theorem bt_zip:bootBuiltins "zip" = some (.type "zip"):=by decide +kernel
theorem bt_enumerate:bootBuiltins "enumerate" = some (.type "enumerate"):=by decide +kernel
theorem kit_same (K:PySem.W.Frag) (t:Value):PySem.W.kitOne K t t = some true:=by
 unfold PySem.W.kitOne
 rw [if_pos (beq_self_eq_true t)]
theorem kit_ty (K:PySem.W.Frag) {T U:String} {b:Bool} (hne:(Value.type T == Value.type U) = false) (hm:PySem.W.kitMeta U = true) (h:(fastBuiltinMro T).map (·.contains (Value.type U)) = some b):PySem.W.kitOne K (.type T) (.type U) = some b:=by
 unfold PySem.W.kitOne
 rw [if_neg (by rw [hne];exact Bool.false_ne_true)]
 show (if PySem.W.kitMeta U = true then _ else none) = _
 rw [if_pos hm]
 exact h
mutual
inductive DV (K:PySem.W.Frag) (H:Hp):V → PyData → Prop
 | non:DV K H .non .none
 | bl (b:Bool):DV K H (.bl b) (.bool b)
 | int (i:Int):DV K H (.int i) (.int i)
 | str (x:Str):DV K H (.str x) (.str x)
 | tup {a:Addr} {xs:List V} {ds:List PyData} (h:SqT K H a xs) (r:DVs K H xs ds):DV K H (.ref a) (.tuple ds)
 | lst {a:Addr} {xs:List V} {ds:List PyData} (h:SqL K H a xs) (r:DVs K H xs ds):DV K H (.ref a) (.list ds)
inductive DVs (K:PySem.W.Frag) (H:Hp):List V → List PyData → Prop
 | nil:DVs K H [] []
 | cons {x:V} {xs:List V} {d:PyData} {ds:List PyData} (h:DV K H x d) (r:DVs K H xs ds):DVs K H (x :: xs) (d :: ds)
end
section
variable {X:Cx} {pins:List (Addr × Obj)} {σ:St} {H:Hp} {s:Shared}
mutual
theorem DV.reads (I:Inv X pins σ H s):∀ {x:V} {d:PyData} {u:Value},DV X.K H x d → RelV x u → ∃ as,Reads s.heap u d as
 | _,_,_,.non,r=>by cases r;exact ⟨_,.none⟩
 | _,_,_,.bl b,r=>by cases r;exact ⟨_,.bool b⟩
 | _,_,_,.int i,r=>by obtain ⟨t,rfl⟩:=r;exact ⟨_,.int i t⟩
 | _,_,_,.str i,r=>by obtain ⟨t,rfl⟩:=r;exact ⟨_,.str i t⟩
 | _,_,_,.tup h q,r=>by
  cases r
  obtain ⟨its,rv,⟨o,h1,h2,n,h3⟩,_⟩:=I.tuple h
  obtain ⟨as,ra⟩:=DVs.reads I q rv
  exact ⟨_,.tuple h1 h2 h3 (by simpa using ra)⟩
 | _,_,_,.lst h q,r=>by
  cases r
  obtain ⟨its,rv,pl,_⟩:=I.list h
  obtain ⟨o,h1,h2,n,h3⟩:=pl.isList
  obtain ⟨as,ra⟩:=DVs.reads I q rv
  exact ⟨_,.list h1 h2 h3 (by simpa using ra)⟩
theorem DVs.reads (I:Inv X pins σ H s):∀ {xs:List V} {ds:List PyData} {us:List Value},DVs X.K H xs ds → Vals xs us → ∃ as,ReadsAll s.heap us ds as
 | _,_,_,.nil,r=>by cases r;exact ⟨_,.nil⟩
 | _,_,_,.cons h q,r=>by
  cases r with
  | cons r1 r2 =>
   obtain ⟨as,ra⟩:=DV.reads I h r1
   obtain ⟨bs,rb⟩:=DVs.reads I q r2
   exact ⟨_,.cons ra rb⟩
end
end
section
variable {X:Cx}
def rEqD (K:PySem.W.Frag) (f:Bool → Bool):R2:=fun x y H Q=>∃ dx dy,DV K H x dx ∧ DV K H y dy ∧ dx.canLay0 = true ∧ dy.canLay0 = true ∧ dx.depth ≤ 60 ∧ Q (.bl (f (PyData.eqv dx dy))) H
theorem op_eqD (hu:X.A.units + 64 < cLine):OpR X (compareOp .Eq) (rEqD X.K id):=by
 intro pins s σ H x y v u Q I rx ry h
 obtain ⟨dx,dy,h1,h2,h3,h4,h5,q⟩:=h
 obtain ⟨as,ra⟩:=h1.reads I rx
 obtain ⟨bs,rb⟩:=h2.reads I ry
 exact PySem.SeqAt.compareEq_reads ra rb h3 h4 (by omega) (fin_bl I q rfl)
theorem op_neD (hu:X.A.units + 64 < cLine):OpR X (compareOp .NotEq) (rEqD X.K not):=by
 intro pins s σ H x y v u Q I rx ry h
 obtain ⟨dx,dy,h1,h2,h3,h4,h5,q⟩:=h
 obtain ⟨as,ra⟩:=h1.reads I rx
 obtain ⟨bs,rb⟩:=h2.reads I ry
 exact PySem.SeqAt.compareNe_reads ra rb h3 h4 (by omega) (fin_bl I q rfl)
end
structure Def (K:PySem.W.Frag) (mg:Str → Option Value) (x:Str) (st:Stmt) (ps:List Str):Prop where
 ex:∃ (f:Addr) (fd:FuncData),Fun K x x st f fd ∧ Binds K fd ps [] ∧ mg x = some (.ref f)
theorem same_new {H:Hp} {p:Addr} (h:H p = none) (o:HO):Same H (upd H p o):=fun b u q=>by rw [upd_ne (ne_of_none q h)];exact q
end L2
namespace L2
open PySem
end L2
namespace L2
open PySem
end L2
namespace L2
end L2
namespace L2
open PySem PySem.Spec PyProof.Rows
def tstSem (ts:List Expr) (env:Env):Sem Bool:=match ts with
 | []=>pure true
 | c :: _=>isTrue c env (eval c env)
theorem compTurn_any (elt target iter:Expr) (scope:Scope) (pos:Pos) (it acc:Value) (env:Env) :
  compTurn (.ListComp elt [⟨target,iter,[],0⟩] scope pos) 0 it acc env = (standAt iter.pos >>= fun _=>pyNext it >>= fun r=>match r with
   | none=>pure (.done .next)
   | some v=>letOwnedTupleGo target it v >>= fun _=>assign target env v >>= fun _ =>
    (eval elt env >>= fun x=>call (.builtin "list.append") [acc,x] >>= fun _=>pure ()) >>= fun _ =>
     again (.compLoop (.ListComp elt [⟨target,iter,[],0⟩] scope pos) 0 it acc env)):=by rfl
theorem compTurn_if (elt target iter c:Expr) (scope:Scope) (pos:Pos) (it acc:Value) (env:Env) :
  compTurn (.ListComp elt [⟨target,iter,[c],0⟩] scope pos) 0 it acc env = (standAt iter.pos >>= fun _=>pyNext it >>= fun r=>match r with
   | none=>pure (.done .next)
   | some v=>letOwnedTupleGo target it v >>= fun _=>assign target env v >>= fun _ =>
    (forIn [c] true fun (c:Expr) (s:Bool)=>if s = true then (isTrue c env (eval c env) >>= fun ok=>pure (ForInStep.yield ok)) else pure (ForInStep.yield s)) >>= fun s=>if s = true then
     (eval elt env >>= fun x=>call (.builtin "list.append") [acc,x] >>= fun _=>pure ()) >>= fun _ =>
      again (.compLoop (.ListComp elt [⟨target,iter,[c],0⟩] scope pos) 0 it acc env)
     else again (.compLoop (.ListComp elt [⟨target,iter,[c],0⟩] scope pos) 0 it acc env)):=by rfl
theorem compLoop_any {prog:Program} {w:World} {A:Around} {R:Result → Shared → Prop} {s:Shared} {elt target iter:Expr} {ts:List Expr} {scope:Scope} {pos:Pos} {it acc:Value} {env:Env} (hts:ts.length ≤ 1) (I:Nat → Shared → Prop)
  (turn:∀ n s,I n s → wpAny (model prog w) A (pyNext it) (fun r s₁=>match r with
   | none=>R (.ok .next) s₁
   | some v=>wpAny (model prog w) A (letOwnedTupleGo target it v) (fun _ s₁'=>wpAny (model prog w) A (assign target env v) (fun _ s₂=>wpAny (model prog w) A (tstSem ts env) (fun b s₂'=>if b = true then wpAny (model prog w) A (eval elt env) (fun x s₃ =>
     wpAny (model prog w) A (call (.builtin "list.append") [acc,x]) (fun _ s₄=>∃ m,m < n ∧ I m s₄) (notedBy (model prog w) A env fun e s'=>R (.error e) s') s₃)
     (notedBy (model prog w) A env fun e s'=>R (.error e) s') s₂' else ∃ m,m < n ∧ I m s₂') (notedBy (model prog w) A env fun e s'=>R (.error e) s') s₂) (notedBy (model prog w) A env fun e s'=>R (.error e) s') s₁') (notedBy (model prog w) A env fun e s'=>R (.error e) s') s₁) (notedBy (model prog w) A env fun e s'=>R (.error e) s') s)
  (n:Nat) (h:I n s) :
  codeAny (model prog w) A (.compLoop (.ListComp elt [⟨target,iter,ts,0⟩] scope pos) 0 it acc env) R s:=by
 refine codeAny_loop rfl I (fun n s hI=>?_) n h
 show wpAny _ _ ((compTurn (.ListComp elt [⟨target,iter,ts,0⟩] scope pos) 0 it acc env).onRaise (fun x=>do noteFrame x env;theTreesLotGoes x)) _ _ s
 refine wpAny_noted ?_
 match ts,hts with
 | [],_ =>
  rw [compTurn_any]
  refine wpAny_bind (wpAny_standAt (wpAny_bind (wpAny_mono (turn n s hI) (fun r s₁ h₁=>?_) fun _ _ h'=>h')))
  cases r with
  | none=>exact wpAny_pure h₁
  | some v =>
   refine wpAny_bind (wpAny_mono h₁ (fun _ s₁' h₁'=>?_) fun _ _ h'=>h')
   refine wpAny_bind (wpAny_mono h₁' (fun _ s₂ h₂=>?_) fun _ _ h'=>h')
   show wpAny _ _ ((pure true:Sem Bool) >>= fun b=>if b = true then ((eval elt env >>= fun x=>call (.builtin "list.append") [acc,x] >>= fun _=>pure ()) >>= fun _=>again (.compLoop (.ListComp elt [⟨target,iter,[],0⟩] scope pos) 0 it acc env)) else again (.compLoop (.ListComp elt [⟨target,iter,[],0⟩] scope pos) 0 it acc env)) _ _ s₂
   refine wpAny_bind (wpAny_mono h₂ (fun b s₂' h₂'=>?_) fun _ _ h'=>h')
   cases b with
   | true =>
    rw [if_pos rfl] at h₂' ⊢
    exact wpAny_bind (wpAny_bind (wpAny_mono h₂' (fun x s₃ h₃=>wpAny_bind (wpAny_mono h₃ (fun _ s₄ h₄=>wpAny_pure (wpAny_pure ⟨rfl,h₄⟩)) fun _ _ h'=>h')) fun _ _ h'=>h'))
   | false =>
    rw [if_neg Bool.false_ne_true] at h₂' ⊢
    exact wpAny_pure ⟨rfl,h₂'⟩
 | [c],_ =>
  rw [compTurn_if]
  refine wpAny_bind (wpAny_standAt (wpAny_bind (wpAny_mono (turn n s hI) (fun r s₁ h₁=>?_) fun _ _ h'=>h')))
  cases r with
  | none=>exact wpAny_pure h₁
  | some v =>
   refine wpAny_bind (wpAny_mono h₁ (fun _ s₁' h₁'=>?_) fun _ _ h'=>h')
   refine wpAny_bind (wpAny_mono h₁' (fun _ s₂ h₂=>?_) fun _ _ h'=>h')
   rw [List.forIn_cons]
   refine wpAny_bind (wpAny_bind ?_)
   rw [if_pos rfl]
   refine wpAny_bind (wpAny_mono h₂ (fun b s₂' h₂'=>wpAny_pure ?_) fun _ _ h'=>h')
   show wpAny _ _ (forIn [] b _) _ _ _
   rw [List.forIn_nil]
   refine wpAny_pure ?_
   cases b with
   | true =>
    rw [if_pos rfl] at h₂' ⊢
    exact wpAny_bind (wpAny_bind (wpAny_mono h₂' (fun x s₃ h₃=>wpAny_bind (wpAny_mono h₃ (fun _ s₄ h₄=>wpAny_pure (wpAny_pure ⟨rfl,h₄⟩)) fun _ _ h'=>h')) fun _ _ h'=>h'))
   | false =>
    rw [if_neg Bool.false_ne_true] at h₂' ⊢
    exact wpAny_pure ⟨rfl,h₂'⟩
theorem cells_mem:∀ (names:List (Str × NameKind)) (h:Heap) (acc:List (Str × Addr)) (n:Str) (c:Addr),(n,c) ∈ PySem.cellsFrom h.objs.size names acc → (n,c) ∈ acc ∨ ((PySem.pushCells h names).IsCell c none ∧ h.objs.size ≤ c)
 | [],_,_,_,_,hm=>.inl hm
 | (name,kind) :: r,h,acc,n,c,hm=>by
  unfold PySem.cellsFrom at hm
  unfold PySem.pushCells
  split at hm
  ·rename_i hk
   rw [if_pos hk]
   have hm':(n,c) ∈ PySem.cellsFrom (h.push { cls:=.type "cell", data:=.cell none }).objs.size r ((name,h.objs.size) :: acc):=by rw [Heap.size_push];exact hm
   rcases cells_mem r (h.push { cls:=.type "cell", data:=.cell none }) ((name,h.objs.size) :: acc) n c hm' with z | ⟨z1,z2⟩
   ·rcases List.mem_cons.mp z with e | z
    ·cases e
     exact .inr ⟨⟨_,PySem.pushCells_keeps r _ _ _ (Heap.get?_push_size _ rfl),rfl⟩,Nat.le_refl _⟩
    ·exact .inl z
   ·rw [Heap.size_push] at z2
    exact .inr ⟨z1,by omega⟩
  ·rename_i hk
   rw [if_neg hk]
   exact cells_mem r h acc n c hm
theorem cells_inj:∀ (names:List (Str × NameKind)) (k:Nat) (acc:List (Str × Addr)),(∀ n c,(n,c) ∈ acc → c < k) → (∀ n n' c,(n,c) ∈ acc → (n',c) ∈ acc → n = n') → ∀ n n' c,(n,c) ∈ PySem.cellsFrom k names acc → (n',c) ∈ PySem.cellsFrom k names acc → n = n'
 | [],_,_,_,hi,n,n',c,h1,h2=>hi n n' c h1 h2
 | (name,kind) :: r,k,acc,hl,hi,n,n',c,h1,h2=>by
  unfold PySem.cellsFrom at h1 h2
  split at h1
  ·rename_i hk
   rw [if_pos hk] at h2
   refine cells_inj r (k + 1) ((name,k) :: acc) (fun m d hm=>?_) (fun m m' d hm hm'=>?_) n n' c h1 h2
   ·rcases List.mem_cons.mp hm with e | hm
    ·cases e;exact Nat.lt_succ_self _
    ·exact Nat.lt_succ_of_lt (hl m d hm)
   ·rcases List.mem_cons.mp hm with e | hm <;> rcases List.mem_cons.mp hm' with e' | hm'
    ·cases e;cases e';rfl
    ·cases e;exact absurd (hl _ _ hm') (Nat.lt_irrefl _)
    ·cases e';exact absurd (hl _ _ hm) (Nat.lt_irrefl _)
    ·exact hi m m' d hm hm'
  ·rename_i hk
   rw [if_neg hk] at h2
   exact cells_inj r k acc hl hi n n' c h1 h2
theorem cells_old {x:Str}:∀ (names:List (Str × NameKind)) (k:Nat) (acc:List (Str × Addr)),(∀ y ∈ names,y.2 = .cell → y.1 ≠ x) → (PySem.cellsFrom k names acc).lookup x = acc.lookup x
 | [],_,_,_=>rfl
 | (name,kind) :: r,k,acc,h=>by
  unfold PySem.cellsFrom
  split
  ·rename_i hk
   rw [cells_old r (k + 1) _ fun y hy=>h y (List.mem_cons_of_mem _ hy)]
   have ne:name ≠ x:=h (name,kind) List.mem_cons_self (by simpa using hk)
   rw [List.lookup_cons,beq_false_of_ne (Ne.symm ne)]
  ·exact cells_old r k acc fun y hy=>h y (List.mem_cons_of_mem _ hy)
theorem cells_some {x:Str}:∀ (names:List (Str × NameKind)) (k:Nat) (acc:List (Str × Addr)),((acc.lookup x).isSome = true ∨ (x,NameKind.cell) ∈ names) → ((PySem.cellsFrom k names acc).lookup x).isSome = true
 | [],_,_,h=>by
  rcases h with h | h
  ·exact h
  ·cases h
 | (name,kind) :: r,k,acc,h=>by
  unfold PySem.cellsFrom
  split
  ·rename_i hk
   refine cells_some r (k + 1) _ ?_
   by_cases e:x = name
   ·subst e;exact .inl (by simp)
   ·rcases h with h | h
    ·exact .inl (by rw [List.lookup_cons,beq_false_of_ne e];exact h)
    ·rcases List.mem_cons.mp h with z | h
     ·cases z;exact absurd rfl e
     ·exact .inr h
  ·rename_i hk
   refine cells_some r k acc ?_
   rcases h with h | h
   ·exact .inl h
   ·rcases List.mem_cons.mp h with z | h
    ·cases z;exact absurd rfl hk
    ·exact .inr h
theorem newEnv_own {M:Model} {A:Around} {E:Value → Shared → Prop} {s:Shared} {scope:Scope} {globals:Addr} {closure:List (Str × Addr)} {qual:Str} {func:Option Addr} {code:Value} {outer:Env} {builtins:Addr} {Q:Env → Shared → Prop}
  (hQ:∀ h',h'.Ns s.heap.objs.size (fun _=>none) → (∀ b o,s.heap.get? b = some o → h'.get? b = some o) → (∀ n c,(n,c) ∈ PySem.cellsFrom (s.heap.objs.size + 1) scope.names closure → (n,c) ∈ closure ∨ (h'.IsCell c none ∧ s.heap.objs.size + 1 ≤ c)) →
   Q (newEnv scope s.heap.objs.size globals (PySem.cellsFrom (s.heap.objs.size + 1) scope.names closure) qual func code (some outer) builtins) { s with heap:=h' }) :
  wpAny M A (newFunctionEnv scope globals closure [] qual func code (some outer) builtins) Q E s:=by
 simp only [newFunctionEnv,Option.isSome_some,if_true]
 refine wpAny_bind (wpAny_alloc ?_)
 refine wpAny_bind (wpAny_layCells _ (fun name kind cells=>by cases hkc:kind == NameKind.cell <;> simp [hkc]) _ _ _ _ ?_)
 rw [show ({ s with heap:=s.heap.push { cls:=.type "dict", data:=.dict #[] } }:Shared).heap.objs.size = s.heap.objs.size + 1 from Heap.size_push ..]
 rw [List.forIn_nil]
 refine wpAny_bind (wpAny_pure (wpAny_pure ?_))
 refine hQ _ ((Heap.Ns.new s.heap (.type "dict")).keeps (PySem.pushCells_keeps _ _)) (fun b o e=>PySem.pushCells_keeps _ _ b o (Heap.get?_push_of_some _ e)) fun n c hm=>?_
 have z:=cells_mem scope.names (s.heap.push { cls:=.type "dict", data:=.dict #[] }) closure n c (by rw [Heap.size_push];exact hm)
 rwa [Heap.size_push] at z
def PTs (X:Cx) (ts:List Expr) (tt:TT):Prop :=
 ∀ (pins:List (Addr × Obj)) (s:Shared) (σ:St) (H:Hp) (Q:Bool → Hp → Prop),Inv X pins σ H s → tt σ H Q → wpAny (model X.prog X.w) X.A (tstSem ts X.env) (TP X pins σ Q) X.xe s
def tYes:TT:=fun _ H Q=>Q true H
theorem pts_nil {X:Cx}:PTs X [] tYes:=fun _ _ _ H _ I h=>wpAny_pure ⟨H,I,h⟩
theorem pts_one {X:Cx} {c:Expr} {tt:TT} (h:PT X c tt):PTs X [c] tt:=h
def cxComp (X:Cx) (N:List Str) (scope:Scope) (cl:List (Str × Addr)) (C:Addr) (s₂:Shared) (H₂:Hp) (fp:List Addr) (pn:List (Addr × Obj)):Cx :=
 { X with N:=N,s₀:=s₂,H₀:=H₂,env:=compEnvC scope (PySem.cellsFrom (C + 1) scope.names cl) C X.env,outer:=X.stack,ex:=fp,fn:=fun x=>scope.names.lookup x == some .cell,pn:=pn,xe:=fun _ _=>False }
def CapOk (X:Cx) (sc:Scope) (cl:List (Str × Addr)):List (Str × Nat) → Prop
 | []=>True
 | p :: r=>(X.N[p.2]? = some p.1 ∧ X.env.scope.names.lookup p.1 = some .cell ∧ (sc.names.lookup p.1 = some .cell) ∧ ∃ c,cl.lookup p.1 = some c ∧ X.env.cells.lookup p.1 = some c) ∧ CapOk X sc cl r
theorem CapOk.get {X:Cx} {sc:Scope} {cl:List (Str × Addr)}:∀ {cap:List (Str × Nat)} {j:Nat} {p:Str × Nat},CapOk X sc cl cap → cap[j]? = some p →
  X.N[p.2]? = some p.1 ∧ X.env.scope.names.lookup p.1 = some .cell ∧ (sc.names.lookup p.1 = some .cell) ∧ ∃ c,cl.lookup p.1 = some c ∧ X.env.cells.lookup p.1 = some c
 | [],_,_,_,e=>by simp at e
 | _ :: _,0,_,h,e=>by simp at e;subst e;exact h.1
 | _ :: _,j + 1,_,h,e=>CapOk.get (j:=j) h.2 (by simpa using e)
def capt (σ:St) (cap:List (Str × Nat)):St:=cap.map fun p=>(σ[p.2]?).join
def st0 (own:List Str) (σ:St) (cap:List (Str × Nat)):St:=List.replicate own.length none ++ capt σ cap
def compGoT (J:It) (g:TG) (tt:TT) (te:TE) (own:List Str) (cap:List (Str × Nat)) (σ:St) (Q:VK) (H1:Hp):Prop:=∃ W:Nat → Nat → List V → Hp → Prop,(∃ m,W 0 m [] H1) ∧ ∀ i m acc H,W i m acc H → acc.length ≤ sizeLine ∧
 ((J.stop i H ∧ ∀ p,H p = none → Q (.ref p) (upd H p (.lst acc))) ∨
  (J.go i H ∧ ∀ x H',J.yld i H x H' → g x (st0 own σ cap) H' fun σ2 H2=>σ2.drop own.length = capt σ cap ∧ tt σ2 H2 fun b H3=>if b = true then te σ2 H3 fun v H4=>acc.length < sizeLine ∧ ∃ m',m' < m ∧ W (i + 1) m' (acc ++ [v]) H4 else ∃ m',m' < m ∧ W (i + 1) m' acc H3))
abbrev Fam (α:Type):=Addr → Shared → Hp → List Addr → List (Addr × Obj) → α
def tCompT (wi:TI) (g:Fam TG) (tt:Fam TT) (te:Fam TE) (own:List Str) (cap:List (Str × Nat)):TE:=fun σ H Q=>wi σ H fun J H1=>∀ C s H2 fp pn,compGoT J (g C s H2 fp pn) (tt C s H2 fp pn) (te C s H2 fp pn) own cap σ Q H1
structure CompOk (X:Cx) (own:List Str) (cap:List (Str × Nat)) (scope:Scope) (cl:List (Str × Addr)):Prop where
 clos:closureFor scope X.env = pure cl
 kind:scope.kind = .function
 nown:∀ x c,(x,c) ∈ cl → ∀ y ∈ scope.names,y.2 = .cell → y.1 ≠ x
 locals:∀ y ∈ scope.names,y.2 = .local → scope.names.lookup y.1 = some .local
 sub:∀ x c,(x,c) ∈ cl → X.env.cells.lookup x = some c
 has:∀ k x,((relabel scope X.env).names.lookup x = some .cell ∨ (relabel scope X.env).names.lookup x = some .free) → ∃ c,(PySem.cellsFrom k scope.names cl).lookup x = some c
 cap:CapOk X (relabel scope X.env) cl cap
section
variable {X:Cx} {own:List Str} {cap:List (Str × Nat)} {scope:Scope} {cl:List (Str × Addr)} {pins:List (Addr × Obj)} {σ:St} {H:Hp} {s:Shared} {fp:List Addr} {tg:Expr} {J:It} {it:Addr} {tn:Nat → Heap → Prop}
theorem get_st0 {i:Nat} {v:V} (e:(st0 own σ cap)[i]? = some (some v)):∃ j p,i = own.length + j ∧ cap[j]? = some p ∧ σ[p.2]? = some (some v):=by
 unfold st0 at e
 by_cases hi:i < own.length
 ·rw [List.getElem?_append_left (by simpa using hi),List.getElem?_replicate,if_pos hi] at e
  cases e
 ·rw [List.getElem?_append_right (by simpa using hi),List.length_replicate] at e
  unfold capt at e
  rw [List.getElem?_map] at e
  cases q:cap[i - own.length]? with
  | none=>rw [q] at e;cases e
  | some p =>
   rw [q] at e
   have e':(σ[p.2]?).join = some v:=Option.some.inj e
   refine ⟨i - own.length,p,by omega,q,?_⟩
   cases z:σ[p.2]? with
   | none=>rw [z] at e';cases e'
   | some o=>rw [z] at e';have e2:o = some v:=e';rw [e2]
theorem Inv.comp (I:Inv X pins σ H s) (O:CompOk X own cap scope cl) (T:Turn X.prog X.w X.K tg J fp it tn) (st:tn 0 s.heap) (f:∀ b ∈ fp,FpOk X pins H b) {C:Addr} {h':Heap} {t':Nat} {m:Str → Option Value} (hC:s.heap.objs.size ≤ C)
  (k:∀ b o,s.heap.get? b = some o → h'.get? b = some o) (hn:h'.Ns C m) (hx:∀ n c,(n,c) ∈ PySem.cellsFrom (C + 1) scope.names cl → (n,c) ∈ cl ∨ (h'.IsCell c none ∧ C + 1 ≤ c)) :
  Inv (cxComp X (own ++ cap.map (·.1)) scope cl C s H fp (X.pn ++ pins)) [] (st0 own σ cap) H { s with heap:=h',toks:=t' }:=by
 have neC:∀ {b:Addr} {o:Obj},s.heap.get? b = some o → b ≠ C:=fun e=>Nat.ne_of_lt (Nat.lt_of_lt_of_le (Heap.lt_size e) hC)
 have cellC:∀ x c,(x,c) ∈ cl → ∃ v,s.heap.IsCell c v:=fun x c e=>I.cell x c (O.sub x c e)
 have ltC:∀ x c,(x,c) ∈ cl → c < C + 1:=fun x c e=>by
  obtain ⟨v,o,ho,_⟩:=cellC x c e
  exact Nat.lt_succ_of_le (Nat.le_of_lt (Nat.lt_of_lt_of_le (Heap.lt_size ho) hC))
 have nefp:∀ b ∈ fp,b ≠ C:=fun b hb=>by
  obtain ⟨o,e,_⟩:=T.obj _ _ st b hb
  exact neC e
 refine ⟨⟨I.ok.mod,O.kind,I.ok.glob,I.ok.blt,hC,fun x y c e1 e2=>cells_inj scope.names (C + 1) cl ltC (fun n n' c h1 h2=>I.ok.inj n n' c (O.sub n c h1) (O.sub n' c h2)) x y c (PySem.mem_of_lookup e1) (PySem.mem_of_lookup e2),O.has (C + 1),fun x c e1 e2=>?_,I.ok.hd,I.ok.frames,.inl rfl,fun b hb=>⟨nefp b hb,fun x c e=>?_⟩,I.bs,Nat.le_trans I.ok.bsz I.sz,fun b o e hb=>?_,fun b hb z=>?_,I.stack,I.stkFree⟩,
  rfl,I.bare,Un.kept k,⟨m,hn,fun i x v e1 e2 e3=>?_⟩,fun x c e=>?_,?_,fun x c e=>?_,fun p hp=>?_,I.hok.kept k,?_⟩
 ·have e1':scope.names.lookup x = some .cell:=by simpa [cxComp] using e1
  rcases hx x c (PySem.mem_of_lookup e2) with z | ⟨_,z⟩
  ·exact absurd rfl (O.nown x c z (x,.cell) (PySem.mem_of_lookup e1') rfl)
  ·exact Nat.le_trans hC (Nat.le_of_succ_le z)
 ·rcases hx x c (PySem.mem_of_lookup e) with z | ⟨_,z⟩
  ·exact (f b hb).2.2.2.2.1 x c (O.sub x c z)
  ·obtain ⟨o,eo,_⟩:=T.obj _ _ st b hb
   exact Nat.ne_of_gt (Nat.lt_of_lt_of_le (Nat.lt_of_lt_of_le (Heap.lt_size eo) hC) (Nat.le_of_succ_le z))
 ·rcases (f b hb).2.2.2.1 with z | z
  ·exact I.ok.noex b o e z
  ·exact absurd (Nat.lt_of_lt_of_le (Heap.lt_size (I.ok.bs b o e).1) z) (Nat.lt_irrefl _)
 ·rcases List.mem_cons.mp (I.stkSub b z) with q | q
  ·exact (f b hb).2.1 q
  ·exact (f b hb).2.2.1 q
 ·obtain ⟨j,p,rfl,hp,hs⟩:=get_st0 e2
  obtain ⟨c1,c2,c3,c,c4,c5⟩:=O.cap.get hp
  have e1':(own ++ cap.map (·.1))[own.length + j]? = some x:=e1
  rw [List.getElem?_append_right (Nat.le_add_right _ _),Nat.add_sub_cancel_left,List.getElem?_map,hp] at e1'
  have ex:p.1 = x:=Option.some.inj e1'
  subst ex
  obtain ⟨m2,_,hl⟩:=I.loc
  obtain ⟨u,r,l⟩:=hl p.2 p.1 v c1 hs (.inr (.inl c2))
  refine ⟨u,r,.inr ⟨.inl c3,c,(cells_old scope.names (C + 1) cl fun y hy hk=>O.nown p.1 c (PySem.mem_of_lookup c4) y hy hk).trans c4,?_⟩⟩
  rcases l with ⟨z,_⟩ | ⟨_,c',z,⟨o,ho,hd⟩⟩
  ·have z':X.env.scope.names.lookup p.1 = some .local:=z
   rw [c2] at z';cases z'
  ·rw [c5] at z;cases z
   exact ⟨o,k _ _ ho,hd⟩
 ·rcases hx x c (PySem.mem_of_lookup e) with z | ⟨z,_⟩
  ·obtain ⟨v,o,ho,hd⟩:=cellC x c z
   exact ⟨v,o,k _ _ ho,hd⟩
  ·exact ⟨none,z⟩
 ·exact I.hok.fresh hC
 ·rcases hx x c (PySem.mem_of_lookup e) with z | ⟨_,z⟩
  ·exact I.freeC x c (O.sub x c z)
  ·exact I.hok.fresh (Nat.le_trans hC (Nat.le_of_succ_le z))
 ·have hp':p ∈ X.pn ++ pins:=by simpa [cxComp] using hp
  obtain ⟨e,n,ne,nf,d⟩:=I.pin p hp'
  exact ⟨k _ _ e,n,neC e,fun z=>(List.mem_cons.mp (I.stkSub p.1 z)).elim ne nf,d⟩
 ·show (st0 own σ cap).length = (own ++ cap.map (·.1)).length
  unfold st0 capt
  simp
theorem comp_run {elt iter:Expr} {ts:List Expr} {pos:Pos} {gF:Fam TG} {ttF:Fam TT} {teF:Fam TE} {E:Value → Shared → Prop} (O:CompOk X own cap scope cl) (hc:X.calm = true)
  (hgF:∀ C s H fp pn,PG (cxComp X (own ++ cap.map (·.1)) scope cl C s H fp pn) tg (gF C s H fp pn)) (htF:∀ C s H fp pn,PTs (cxComp X (own ++ cap.map (·.1)) scope cl C s H fp pn) ts (ttF C s H fp pn)) (heF:∀ C s H fp pn,PE (cxComp X (own ++ cap.map (·.1)) scope cl C s H fp pn) elt (teF C s H fp pn)) (hts:ts.length ≤ 1)
  (I2:Inv X pins σ H s) (T:Turn X.prog X.w X.K tg J fp it tn) (st2:tn 0 s.heap) (f2:∀ b ∈ fp,FpOk X pins H b) {Q:VK}
  (hw:∀ C s H2 fp pn,compGoT J (gF C s H2 fp pn) (ttF C s H2 fp pn) (teF C s H2 fp pn) own cap σ Q H)
  {R:Value → Addr → Result → Shared → Prop}
  (fin:∀ (D C:Addr) (H':Hp) (s':Shared) (m:Str → Option Value),s.heap.objs.size ≤ C → s'.heap.Ns C m → H' C = none →
   (∀ h',Heap.SameBut C s'.heap h' → Inv X pins σ H' { s' with heap:=h' }) → Q (.ref D) H' → R (.ref D) C (.ok .next) s') :
  wpAny (model X.prog X.w) X.A (newList []) (fun acc s₃=>wpAny (model X.prog X.w) X.A (newFunctionEnv scope X.env.globals cl [] X.env.qual none .none (some X.env)) (fun cenv s₄ =>
   codeAny (model X.prog X.w) X.A (.compStart (.ListComp elt [⟨tg,iter,ts,0⟩] scope pos) 0 (.ref it) acc { cenv with scope:=relabel scope X.env }) (R acc cenv.locals) s₄) E s₃) E s:=by
 refine wpAny_newObj_type (newEnv_own (fun h₁ hns₁ hk₁ hx₁=>?_))
 dsimp only at hns₁ hk₁ hx₁ ⊢
 generalize hHh:s.heap.push { cls:=.type "list", dict:=none,data:=.seq ([]:List Value).toArray } = Hh at hns₁ hk₁ hx₁ ⊢
 have hCs:Hh.objs.size = s.heap.objs.size + 1:=by rw [← hHh,Heap.size_push]
 generalize hCC:Hh.objs.size = C at hns₁ hx₁ hCs ⊢
 generalize hDD:s.heap.objs.size = D at hCs ⊢
 have ltDC:D < C:=by omega
 have hDC:D ≠ C:=Nat.ne_of_lt ltDC
 have hsD:s.heap.objs.size ≤ D:=Nat.le_of_eq hDD
 have hsC:s.heap.objs.size ≤ C:=by omega
 have ltS:∀ {b:Addr} {o:Obj},s.heap.get? b = some o → b < D:=fun e=>by rw [← hDD];exact Heap.lt_size e
 have old:∀ b o,s.heap.get? b = some o → h₁.get? b = some o:=fun b o e=>by
  refine hk₁ b o ?_
  rw [← hHh]
  exact Heap.get?_push_of_some _ e
 have hD0:h₁.PlainList D #[]:=by
  have z:Hh.get? D = some { cls:=.type "list", dict:=none,data:=.seq ([]:List Value).toArray }:=by
   rw [← hHh,← hDD]
   exact Heap.get?_push_size _ rfl
  exact ⟨_,hk₁ D _ z⟩
 obtain ⟨W,⟨m0,w0⟩,turn⟩:=hw C s H fp (X.pn ++ pins)
 have hg:=hgF C s H fp (X.pn ++ pins)
 have ht:=htF C s H fp (X.pn ++ pins)
 have he:=heF C s H fp (X.pn ++ pins)
 have I':=I2.comp (t':=s.toks) O T st2 f2 hsC old hns₁ hx₁
 have cne:∀ x c,(PySem.cellsFrom (C + 1) scope.names cl).lookup x = some c → (∃ v,s.heap.IsCell c v ∧ X.env.cells.lookup x = some c) ∨ C < c:=fun x c e=>by
  rcases hx₁ x c (PySem.mem_of_lookup e) with z | ⟨_,z⟩
  ·obtain ⟨v,hv⟩:=I2.cell x c (O.sub x c z)
   exact .inl ⟨v,hv,O.sub x c z⟩
  ·exact .inr z
 have st':tn 0 h₁:=T.keep _ _ _ st2 fun b hb o e=>old b o e
 have nofr:∀ {a:Addr},s.heap.objs.size ≤ a → a ∉ frs X.stack:=fun {a} ha z=>by
  rcases List.mem_cons.mp (I2.stkSub a z) with q | q
  ·exact absurd (Nat.lt_of_lt_of_le I2.lt ha) (by rw [q];exact Nat.lt_irrefl _)
  ·exact I2.nofs ha q
 have ltfp:∀ b ∈ fp,b < D:=fun b hb=>by
  obtain ⟨o,e,_⟩:=T.obj _ _ st2 b hb
  exact ltS e
 have fpk:∀ {H3:Hp} {objD:Obj},(∀ b ∈ fp,H3 b = none) → ∀ b ∈ fp,FpOk (cxComp X (own ++ cap.map (·.1)) scope cl C s H fp (X.pn ++ pins)) [(D,objD)] H3 b:=fun {H3 objD} hn b hb=>by
  obtain ⟨_,f1,f3,f4,f5,f6⟩:=f2 b hb
  have lb:=ltfp b hb
  refine ⟨hn b hb,(Nat.ne_of_lt (Nat.lt_trans lb ltDC)),fun z=>?_,.inl hb,fun x c e=>?_,fun p hp=>?_⟩
  ·rcases List.mem_cons.mp (I2.stkSub b z) with q | q
   ·exact f1 q
   ·exact f3 q
  ·rcases cne x c e with ⟨_,_,z⟩ | z
   ·exact f5 x c z
   ·exact Nat.ne_of_gt (Nat.lt_trans lb (Nat.lt_trans ltDC z))
  ·rcases List.mem_append.mp hp with z | z
   ·exact f6 p z
   ·have z':p = (D,objD):=by simpa using z
    subst z'
    exact Nat.ne_of_gt lb
 have loop:∀ s₃:Shared,s₃ = { s with heap:=h₁ } →
   codeAny (model X.prog X.w) X.A (.compLoop (.ListComp elt [⟨tg,iter,ts,0⟩] scope pos) 0 (.ref it) (.ref D) (compEnvC scope (PySem.cellsFrom (C + 1) scope.names cl) C X.env)) (R (.ref D) C) s₃:=by
  rintro s₃ rfl
  refine compLoop_any hts (fun n s'=>∃ (i:Nat) (acc:List V) (its:List Value) (H':Hp),Inv (cxComp X (own ++ cap.map (·.1)) scope cl C s H fp (X.pn ++ pins)) [] (st0 own σ cap) H' s' ∧ tn i s'.heap ∧ (∀ b ∈ fp,H' b = none) ∧ H' D = none ∧
   s'.heap.PlainList D its.toArray ∧ Vals acc its ∧ W i n acc H') ?_ m0 ⟨0,[],[],H,I',st',fun b hb=>(f2 b hb).1,I2.hok.fresh hsD,hD0,.nil,w0⟩
  rintro n s3 ⟨i,acc,its,H3,I3,st3,fr3,nD,⟨nn,hD⟩,rv,w3⟩
  obtain ⟨hlen,hturn⟩:=turn i n acc H3 w3
  have lenV:=rv.length
  have pinD:∀ {s5:Shared} {H5:Hp},s5.heap.get? D = some { cls:=.type "list", data:=.seq its.toArray nn } → H5 D = none → ∀ p ∈ [(D,({ cls:=.type "list", data:=.seq its.toArray nn }:Obj))],s5.heap.get? p.1 = some p.2 ∧ H5 p.1 = none ∧ p.1 ≠ C ∧ p.1 ∉ frs X.stack ∧ ∀ v,p.2.data ≠ .cell v:=by
   intro s5 H5 e1 e2 p hp
   have z':p = (D,({ cls:=.type "list", data:=.seq its.toArray nn }:Obj)):=by simpa using hp
   subst z'
   exact ⟨e1,e2,hDC,nofr hsD,fun v z=>by cases z⟩
  have I3p:Inv (cxComp X (own ++ cap.map (·.1)) scope cl C s H fp (X.pn ++ pins)) [(D,{ cls:=.type "list", data:=.seq its.toArray nn })] (st0 own σ cap) H3 s3:=I3.pins_of (pinD hD nD)
  rcases hturn with ⟨stop,qn⟩ | ⟨go,step⟩
  ·refine wpAny_mono (T.done (cxComp X (own ++ cap.map (·.1)) scope cl C s H fp (X.pn ++ pins)) rfl rfl rfl hc i _ s3 _ H3 (fun _ _=>False) I3p (fpk fr3) st3 stop) (fun r s4 h4=>?_) (fun _ _ z=>z.elim)
   obtain ⟨hr,I4⟩:=h4
   subst hr
   obtain ⟨m4,hm4,_⟩:=I4.loc
   have hD4:=(I4.pin (D,{ cls:=.type "list", data:=.seq its.toArray nn }) (List.mem_append_right _ (by simp))).1
   have nC:H3 C = none:=I4.free
   refine fin D C (upd H3 D (.lst acc)) s4 m4 hsC hm4 (by rw [upd_ne (Ne.symm hDC)];exact nC) (fun h' sb=>?_) (qn D nD)
   have kc:∀ b o,b ≠ C → s4.heap.get? b = some o → h'.get? b = some o:=fun b o hb e=>sb.extBut b o hb e
   have neD:∀ {b:Addr} {o:Obj},s.heap.get? b = some o → b ≠ D:=fun e=>Nat.ne_of_lt (ltS e)
   have neC:∀ {b:Addr} {o:Obj},s.heap.get? b = some o → b ≠ C:=fun e=>Nat.ne_of_lt (Nat.lt_trans (ltS e) ltDC)
   refine I2.call' (s':={ s4 with heap:=h' }) (ch:=fp) I4.os ⟨?_,?_,?_,?_,?_,?_,?_⟩ (fun a o e=>?_) I4.bare (fun b hb=>?_)
   ·exact fun b o e n hb hx=>kc b o (neC e) (I4.base.keep b o e n hb hx)
   ·intro b o e n hb hx
    obtain ⟨sl,q⟩:=I4.base.slot b o e n hb hx
    exact ⟨sl,kc b _ (neC e) q⟩
   ·intro b o e n hx
    rw [upd_ne (neD e)]
    exact I4.base.free b o e n hx
   ·intro b o e hx
    obtain ⟨o',q⟩:=I4.base.there b o e hx
    exact ⟨o',kc b _ (neC e) q⟩
   ·intro b xs e
    have q:=I4.base.tups b xs e
    rw [upd_ne (ne_of_none q nD)]
    exact q
   ·intro b o u e
    have q:=I4.base.frzs b o u e
    rw [upd_ne (ne_of_none q nD)]
    exact q
   ·intro b ps e
    obtain ⟨more,q⟩:=I4.base.tbls b ps e
    exact ⟨more,by rw [upd_ne (ne_of_none q nD)];exact q⟩
   ·by_cases ha:a = D
    ·subst ha
     rw [upd_same] at e
     cases e
     exact ⟨hlen,its,nn,rv,kc _ _ hDC hD4⟩
    ·rw [upd_ne ha] at e
     refine (I4.hok a o e).stay (fun b u hb q=>kc b u ?_ q) (fun b q=>?_) (fun b xs q=>?_)
     ·rcases hb with rfl | hb
      ·exact ne_of_none e nC
      ·exact ne_of_none hb nC
     ·rw [upd_ne (ne_of_none q nD)];exact q
     ·rw [upd_ne (ne_of_none q nD)];exact q
   ·obtain ⟨_,f1,_,f4,f5,f6⟩:=f2 b hb
    exact ⟨f4,f1,f5,f6⟩
  ·refine wpAny_mono (T.item (cxComp X (own ++ cap.map (·.1)) scope cl C s H fp (X.pn ++ pins)) rfl rfl rfl hc i _ s3 _ H3 (fun _ _=>False) I3p (fpk fr3) st3 go) (fun r s4 h4=>?_) (fun _ _ z=>z.elim)
   obtain ⟨u,hr,h4⟩:=h4
   subst hr
   refine wpAny_mono h4 (fun _ s5 h5=>?_) (fun _ _ z=>z.elim)
   obtain ⟨x,H5,I5,r5,y5,st5,fr5⟩:=h5
   have I5':=I5.pinned (fpk fr5) (T.obj _ _ st5)
   refine wpAny_mono (hg _ s5 _ H5 x u _ I5' r5 (step x H5 y5)) (fun _ s6 h6=>?_) (fun _ _ z=>z.elim)
   obtain ⟨σ6,H6,I6,e6,q6⟩:=h6
   refine wpAny_mono (ht _ s6 σ6 H6 _ I6 q6) (fun bb s6' h6'=>?_) (fun _ _ z=>z.elim)
   obtain ⟨H6',I6',q6'⟩:=h6'
   have stay:∀ {H7:Hp} {s7:Shared},Inv (cxComp X (own ++ cap.map (·.1)) scope cl C s H fp (X.pn ++ pins)) [] σ6 H7 s7 → Inv (cxComp X (own ++ cap.map (·.1)) scope cl C s H fp (X.pn ++ pins)) [] (st0 own σ cap) H7 s7:=fun {H7 s7} I8=>by
    refine I8.weak (I'.len.trans I8.len.symm) (fun j v e=>?_)
    obtain ⟨l,p,rfl,hp,hs⟩:=get_st0 e
    have q:(σ6.drop own.length)[l]? = some (some v):=by
     rw [e6]
     unfold capt
     rw [List.getElem?_map,hp]
     show some ((σ[p.2]?).join) = _
     rw [hs]
     rfl
    rwa [List.getElem?_drop] at q
   cases bb with
   | false =>
    rw [if_neg Bool.false_ne_true] at q6' ⊢
    obtain ⟨m',hm,w7⟩:=q6'
    obtain ⟨hD7,nD7,_⟩:=I6'.pin (D,{ cls:=.type "list", data:=.seq its.toArray nn }) (List.mem_append_right _ (by simp))
    have st7:tn (i + 1) s6'.heap:=T.keep _ _ _ st5 fun b hb o e=>(I6'.pin (b,o) (List.mem_append_right _ (List.mem_append_right _ (mem_pinsAt hb e)))).1
    have fr7:∀ b ∈ fp,H6' b = none:=fun b hb=>by
     obtain ⟨o,e,_⟩:=T.obj _ _ st5 b hb
     exact (I6'.pin (b,o) (List.mem_append_right _ (List.mem_append_right _ (mem_pinsAt hb e)))).2.1
    exact ⟨m',hm,i + 1,acc,its,H6',stay (I6'.pins_of fun p hp=>nomatch hp),st7,fr7,nD7,⟨nn,hD7⟩,rv,w7⟩
   | true =>
   rw [if_pos rfl] at q6' ⊢
   refine wpAny_mono (he _ s6' σ6 H6' _ I6' q6') (fun y s7 h7=>?_) (fun _ _ z=>z.elim)
   obtain ⟨v,H7,I7,r7,hl7,m',hm,w7⟩:=h7
   obtain ⟨hD7,nD7,_⟩:=I7.pin (D,{ cls:=.type "list", data:=.seq its.toArray nn }) (List.mem_append_right _ (by simp))
   have st7:tn (i + 1) s7.heap:=T.keep _ _ _ st5 fun b hb o e=>(I7.pin (b,o) (List.mem_append_right _ (List.mem_append_right _ (mem_pinsAt hb e)))).1
   have fr7:∀ b ∈ fp,H7 b = none:=fun b hb=>by
    obtain ⟨o,e,_⟩:=T.obj _ _ st5 b hb
    exact (I7.pin (b,o) (List.mem_append_right _ (List.mem_append_right _ (mem_pinsAt hb e)))).2.1
   refine wpAny_list_append_plain (l:=D) (items:=its.toArray) ⟨nn,hD7⟩ (fun h8 hp8 hs8=>?_) (by rw [List.size_toArray];omega)
   have I7w:Inv (cxComp X (own ++ cap.map (·.1)) scope cl C s H fp (X.pn ++ pins)) [] σ6 H7 s7:=I7.pins_of fun p hp=>nomatch hp
   have I8:Inv (cxComp X (own ++ cap.map (·.1)) scope cl C s H fp (X.pn ++ pins)) [] σ6 H7 { s7 with heap:=h8 }:=by
    refine I7w.turned (t':=s7.toks) (it:=D) (fun b o hb e=>hs8.extBut b o hb e) nD7 hDC (.inr hsD) (fun x c e=>?_) (fun p hp=>?_)
    ·rcases cne x c e with ⟨v,⟨o,ho,_⟩,_⟩ | z
     ·exact Nat.ne_of_lt (ltS ho)
     ·exact Nat.ne_of_gt (Nat.lt_trans ltDC z)
    ·have hp':p ∈ X.pn ++ pins:=by simpa [cxComp] using hp
     exact Nat.ne_of_lt (ltS (I2.pin p hp').1)
   have I9:=stay I8
   refine ⟨m',hm,i + 1,acc ++ [v],its ++ [y],H7,I9,T.keep _ _ _ st7 (fun b hb o e=>hs8.extBut b o (Nat.ne_of_lt (ltfp b hb)) e),fr7,nD7,?_,rv.append (.cons r7 .nil),w7⟩
   simpa using hp8
 exact codeAny_compStart_list (loop _ rfl) (T.self X.A 0 _ _ _ st' (loop _ rfl))
theorem pe_comp {elt iter:Expr} {pos:Pos} {wi:TI} {ts:List Expr} {g:Fam TG} {tt:Fam TT} {te:Fam TE} (hi:PI X tg iter wi) (O:CompOk X own cap scope cl) (hc:X.calm = true)
  (hg:∀ C s H fp pn,PG (cxComp X (own ++ cap.map (·.1)) scope cl C s H fp pn) tg (g C s H fp pn)) (ht:∀ C s H fp pn,PTs (cxComp X (own ++ cap.map (·.1)) scope cl C s H fp pn) ts (tt C s H fp pn)) (he:∀ C s H fp pn,PE (cxComp X (own ++ cap.map (·.1)) scope cl C s H fp pn) elt (te C s H fp pn)) (hts:ts.length ≤ 1)
  (hs:∀ x,foldedSetIterable iter X.env x = pure x:=by intro _;rfl):PE X (.ListComp elt [⟨tg,iter,ts,0⟩] scope pos) (tCompT wi g tt te own cap):=by
 intro pins s σ H Q I h
 rw [eval_ListComp]
 refine wpAny_comprehension_free (use:=none) rfl hs O.clos O.kind O.locals (thn (hi pins s σ H _ I h) fun xv s₁ h₁=>thn h₁ fun itv s₂ h₂=>?_)
 obtain ⟨it,fp,tn,J,H2,rfl,I2,T,st2,f2,hw⟩:=h₂
 refine comp_run (R:=fun acc C=>compPost (model X.prog X.w) X.A X.xe none (EP X pins σ Q) acc C) O hc hg ht he hts I2 T st2 f2 hw ?_
 intro D C H' s' m hC hn hH IV q
 exact ⟨m,hn,fun h' sb=>⟨.ref D,H',IV h' sb,rfl,q⟩⟩
theorem ps_setComp {elt iter:Expr} {pos pos' spos:Pos} {wi:TI} {ts:List Expr} {g:Fam TG} {tt:Fam TT} {te:Fam TE} {i:Nat} {x:Str} (hN:X.N.Nodup) (hix:X.N[i]? = some x) (hx:Loc X.env.scope x) (hi:PI X tg iter wi) (O:CompOk X own cap scope cl) (hc:X.calm = true)
  (hg:∀ C s H fp pn,PG (cxComp X (own ++ cap.map (·.1)) scope cl C s H fp pn) tg (g C s H fp pn)) (ht:∀ C s H fp pn,PTs (cxComp X (own ++ cap.map (·.1)) scope cl C s H fp pn) ts (tt C s H fp pn)) (he:∀ C s H fp pn,PE (cxComp X (own ++ cap.map (·.1)) scope cl C s H fp pn) elt (te C s H fp pn)) (hts:ts.length ≤ 1)
  (hsw:swapsWith (.ListComp elt [⟨tg,iter,ts,0⟩] scope pos) (some (.Name x pos')) spos.line X.env = pure true:=by rfl)
  (hs:∀ x,foldedSetIterable iter X.env x = pure x:=by intro _;rfl)
  (hf:X.fn x = true ∨ X.env.scope.names.lookup x = some .local:=by first | exact .inl rfl | exact .inr rfl | assumption):PS X (.Assign [.Name x pos'] (.ListComp elt [⟨tg,iter,ts,0⟩] scope pos) spos) (tAsg (tCompT wi g tt te own cap) (gName i)):=by
 intro pins s σ H D I h
 rw [exec_Assign_Name_used _ _ _ _ hsw]
 refine wpAny_bind (wpAny_standAt (wpAny_bind ?_))
 show wpAny _ X.A (do let _ ← comprehension (.ListComp elt [⟨tg,iter,ts,0⟩] scope pos) scope X.env _ (newList []) false (eval iter X.env) (some (assign (.Name x pos') X.env))) _ _ s
 refine wpAny_bind (wpAny_mono (wpAny_comprehension_free (use:=some (assign (.Name x pos') X.env)) (Q:=fun _ s'=>SP X pins D .next s') rfl hs O.clos O.kind O.locals
  (thn (hi pins s σ H _ I h) fun xv s₁ h₁=>thn h₁ fun itv s₂ h₂=>?_)) (fun _ s' hq=>wpAny_pure (wpAny_pure hq)) fun _ _ e=>e)
 obtain ⟨it,fp,tn,J,H2,rfl,I2,T,st2,f2,hw⟩:=h₂
 refine comp_run (Q:=fun x H1=>gName i x σ H1 D.nx) (R:=fun acc C=>compPost (model X.prog X.w) X.A X.xe (some (assign (.Name x pos') X.env)) (fun _ s'=>SP X pins D .next s') acc C) O hc hg ht he hts I2 T st2 f2 hw ?_
 intro A C H' s' m hC hn hH IV q
 show wpAny _ X.A (assign (.Name x pos') X.env (.ref A)) _ _ _
 have I3:Inv X pins σ H' s':=IV s'.heap (Heap.SameBut.refl ..)
 obtain ⟨oc,es,ep,ho,hd,hk⟩:=id hn
 have neL:C ≠ X.env.locals:=Nat.ne_of_gt (Nat.lt_of_lt_of_le I2.lt hC)
 have neF:C ∉ X.fs:=I2.nofs hC
 have I4:Inv X (pins ++ [(C,oc)]) σ H' s':=I3.pins_of fun p hp=>by
  rcases List.mem_append.mp hp with z | z
  ·exact I3.pin p (List.mem_append_right _ z)
  ·have z':p = (C,oc):=by simpa using z
   subst z'
   exact ⟨ho,hH,neL,neF,fun v e=>by rw [hd] at e;cases e⟩
 refine wpAny_assign_Name (store_ok I4 hN hix hx (v:=.ref A) rfl (fun s5 I5=>?_) hf)
 have ho5:=(I5.pin (C,oc) (List.mem_append_right _ (List.mem_append_right _ (by simp)))).1
 refine ⟨m,⟨oc,es,ep,ho5,hd,hk⟩,fun h' sb=>⟨_,H',?_,q⟩⟩
 refine (I5.unpinned (pl:=[(C,oc)])).turned (t':=s5.toks) (it:=C) (fun b o hb e=>sb.extBut b o hb e) hH neL (.inr (Nat.le_trans I2.sz hC)) (fun y c e=>?_) (fun p hp=>?_)
 ·obtain ⟨v,o,hc',_⟩:=I2.cell y c e
  exact Nat.ne_of_lt (Nat.lt_of_lt_of_le (Heap.lt_size hc') hC)
 ·exact Nat.ne_of_lt (Nat.lt_of_lt_of_le (Heap.lt_size (I2.pin p hp).1) hC)
end
end L2
namespace L2
open PySem PySem.Spec PyProof.Rows
def relabelN (scope out:Scope):List (Str × NameKind):=scope.names.map fun (n,k)=>if (k == .free && out.kind == .function && out.names.lookup n == some .cell) then (n,.cell) else (n,k)
def compChk (scope out:Scope) (cn:List Str):Bool :=
 scope.names.all (fun y=>y.2 != .cell || !cn.contains y.1) && scope.names.all (fun y=>y.2 != .local || scope.names.lookup y.1 == some .local) && (relabelN scope out).all (fun y=>!(y.2 == .cell || y.2 == .free) || cn.contains y.1 || scope.names.contains (y.1,.cell)) && cn.all (fun n=>out.names.lookup n == some .cell && (relabelN scope out).lookup n == some .cell)
def SubOk (X:Cx):List (Str × Addr) → Prop
 | []=>True
 | p :: r=>X.env.cells.lookup p.1 = some p.2 ∧ SubOk X r
theorem SubOk.mem {X:Cx}:∀ {cl:List (Str × Addr)} {p:Str × Addr},SubOk X cl → p ∈ cl → X.env.cells.lookup p.1 = some p.2
 | _ :: _,_,h,.head _=>h.1
 | _ :: _,_,h,.tail _ m=>SubOk.mem h.2 m
def CapN (X:Cx):List (Str × Nat) → Prop
 | []=>True
 | p :: r=>X.N[p.2]? = some p.1 ∧ CapN X r
theorem look_some {α:Type} {x:Str}:∀ {l:List (Str × α)},x ∈ l.map (·.1) → ∃ c,l.lookup x = some c
 | [],h=>by simp at h
 | (y,c) :: r,h=>by
  by_cases e:x = y
  ·subst e;exact ⟨c,by simp⟩
  ·have h':x ∈ r.map (·.1):=by
    rcases List.mem_map.mp h with ⟨p,hp,rfl⟩
    rcases List.mem_cons.mp hp with rfl | hp
    ·exact absurd rfl e
    ·exact List.mem_map.mpr ⟨p,hp,rfl⟩
   obtain ⟨d,hd⟩:=look_some (l:=r) h'
   exact ⟨d,by rw [List.lookup_cons,beq_false_of_ne e];exact hd⟩
theorem CompOk.of {X:Cx} {own:List Str} {cap:List (Str × Nat)} {scope:Scope} {cl:List (Str × Addr)} (clos:closureFor scope X.env = pure cl) (kind:scope.kind = .function) (chk:compChk scope X.env.scope (cap.map (·.1)) = true)
  (names:cl.map (·.1) = cap.map (·.1)) (sub:SubOk X cl) (capn:CapN X cap):CompOk X own cap scope cl:=by
 unfold compChk at chk
 simp only [Bool.and_eq_true,List.all_eq_true] at chk
 obtain ⟨⟨⟨h1,h2⟩,h3⟩,h4⟩:=chk
 have sub':∀ x c,cl.lookup x = some c → X.env.cells.lookup x = some c:=fun x c e=>sub.mem (PySem.mem_of_lookup e)
 have capk:∀ (l:List (Str × Nat)),(∀ p ∈ l,p.1 ∈ cap.map (·.1)) → CapN X l → CapOk X (relabel scope X.env) cl l:=by
  intro l
  induction l with
  | nil=>exact fun _ _=>trivial
  | cons p r ih =>
   intro hm hn
   have hp:=hm p List.mem_cons_self
   have hq:=h4 p.1 hp
   have e1:X.env.scope.names.lookup p.1 = some .cell:=by simpa using hq.1
   have e2:(relabelN scope X.env.scope).lookup p.1 = some .cell:=by simpa using hq.2
   obtain ⟨c,hc⟩:=look_some (l:=cl) (x:=p.1) (by rw [names];exact hp)
   exact ⟨⟨hn.1,e1,e2,c,hc,sub' _ _ hc⟩,ih (fun q hq=>hm q (List.mem_cons_of_mem _ hq)) hn.2⟩
 refine ⟨clos,kind,fun x c hm y hy hk=>?_,fun y hy e=>?_,fun x c hm=>sub.mem hm,fun k x hx=>?_,capk cap (fun p hp=>List.mem_map.mpr ⟨p,hp,rfl⟩) capn⟩
 ·have:=h1 y hy
  rw [hk] at this
  rintro rfl
  have hc:y.1 ∈ cap.map (·.1):=by rw [← names];exact List.mem_map.mpr ⟨_,hm,rfl⟩
  simp at this
  simp at hc
  obtain ⟨a,ha⟩:=hc
  exact this a ha
 ·have:=h2 y hy
  rw [e] at this
  simpa using this
 ·have fin:∀ k',(relabelN scope X.env.scope).lookup x = some k' → (k' = .cell ∨ k' = .free) → ∃ c,(PySem.cellsFrom k scope.names cl).lookup x = some c:=by
   intro k' e hk
   have:=h3 _ (PySem.mem_of_lookup e)
   refine Option.isSome_iff_exists.mp (cells_some scope.names k cl ?_)
   have this':x ∈ cap.map (·.1) ∨ (x,NameKind.cell) ∈ scope.names:=by
    rcases hk with rfl | rfl
    ·simpa using this
    ·simpa using this
   rcases this' with z | z
   ·obtain ⟨c,hc⟩:=look_some (l:=cl) (x:=x) (by rw [names];exact z)
    exact .inl (by rw [hc];rfl)
   ·exact .inr z
  rcases hx with e | e
  ·exact fin _ e (.inl rfl)
  ·exact fin _ e (.inr rfl)
section
variable {X:Cx} {e st:Expr} {te ts:TE} {p2 pos:Pos}
def tRev (K:PySem.W.Frag) (te ts:TE):TE:=fun σ H Q=>te σ H fun x H1=>ts σ H1 fun y H2=>y = .int (-1) ∧ ∃ a xs,x = .ref a ∧ SqL K H2 a xs ∧ ∀ p,H2 p = none → Q (.ref p) (upd H2 p (.lst xs.reverse))
theorem pe_rev (he:PE X e te) (hst:PE X st ts):PE X (.Subscript e (.Slice none none (some st) p2) pos) (tRev X.K te ts):=by
 intro pins s σ H Q I h
 refine Subscript_ (thn (he pins s σ H _ I h) fun v s1 ⟨x,H1,I1,r1,q1⟩=>?_)
 refine wpAny_Slice ?_
 rw [evalPart_none,evalPart_some]
 refine wpAny_pure (wpAny_pure ?_)
 refine thn (hst pins s1 σ H1 _ I1 q1) fun vk s3 ⟨y,H3,I3,r3,q3⟩=>?_
 obtain ⟨rfl,a,xs,rfl,hx,q⟩:=q3
 cases r1
 obtain ⟨tk,rfl⟩:=r3
 have I4:Inv X pins σ H3 { s3 with heap:=s3.heap.push { cls:=.type "slice", data:=.fields #[.none,.none,.int (-1) tk] } }:=I3.kept (t':=s3.toks) fun b ob q=>Heap.get?_push_of_some _ q
 show wpAny (model X.prog X.w) X.A (subscriptTail e (.Slice none none (some st) p2) (.ref a) (.ref s3.heap.objs.size)) (EP X pins σ Q) X.xe { s3 with heap:=s3.heap.push { cls:=.type "slice", data:=.fields #[.none,.none,.int (-1) tk] } }
 obtain ⟨its,r,ht,hz⟩:=I4.list hx
 have hlen:=r.length
 refine tail_any (ops:=[.ref a,.ref s3.heap.objs.size]) ht.isList.typeIs slot_list_getitem.lookup ?_ (by with_unfolding_all rfl)
 refine wpAny_getItem_list_slice ht.isList (Heap.IsSliceOf.new ..) .none .none (.int (-1) tk) (by decide) ?_ (by rw [List.size_toArray] <;> omega)
 rw [PySem.W.krv_pick]
 refine ⟨.ref _,_,I4.laid (t':=s3.toks) (o:=.lst xs.reverse) (fun b ob q=>Heap.get?_push_of_some _ q) (Nat.le_refl _) ?_,rfl,q _ (I4.hok.fresh (Nat.le_refl _))⟩
 refine ⟨by rw [List.length_reverse];exact hz,its.reverse,0,r.reverse,?_⟩
 exact Heap.get?_push_size _ rfl
end
end L2
namespace L2
open PySem PySem.Spec PyProof.Rows
theorem ObjOk.there {P:Program} {w:World} {H:Hp} {h:Heap} {a:Addr} {o:HO} (x:ObjOk P w H h a o):∃ ob,h.get? a = some ob:=by
 cases o with
 | lst xs=>obtain ⟨_,_,_,_,e⟩:=x;exact ⟨_,e⟩
 | tup xs=>obtain ⟨_,_,_,o,e,_⟩:=x;exact ⟨_,e⟩
 | dK kvs=>obtain ⟨_,_,_,_,o,_,_,e,_⟩:=x;exact ⟨_,e⟩
 | dT kvs=>obtain ⟨_,_,_,_,o,_,_,e,_⟩:=x;exact ⟨_,e⟩
 | set S n=>obtain ⟨o,_,_,_,e,_⟩:=x;exact ⟨_,e⟩
 | ins C dx fs=>obtain ⟨_,_,_,e,_⟩:=x;exact ⟨_,e⟩
 | own y=>obtain ⟨_,e⟩:=x;exact ⟨_,e⟩
 | xd fs=>obtain ⟨_,⟨_,_,_,e,_⟩,_⟩:=x;exact ⟨_,e⟩
 | rng lo hi=>obtain ⟨_,_,_,e⟩:=x;exact ⟨_,e⟩
 | frz ob u=>obtain ⟨e,_⟩:=x;exact ⟨_,e⟩
 | tbl ps=>exact ⟨_,(show h.get? a = some _ from x)⟩
 | met f y=>exact ⟨_,(show h.get? a = some _ from x)⟩
 | ext φ=>obtain ⟨_,⟨_,e⟩,_⟩:=x;exact ⟨_,e⟩
theorem HOk.free {P:Program} {w:World} {H:Hp} {h:Heap} (x:HOk P w H h) {a:Addr} (e:h.get? a = none):H a = none:=by
 cases q:H a with
 | none=>rfl
 | some o =>
  obtain ⟨ob,z⟩:=(x a o q).there
  rw [e] at z;cases z
structure Fly (P:Program) (w:World) (l:List Env) (H H':Hp) (s s':Shared) (x:Addr) (cls:Value):Prop where
 os:s'.os = s.os
 bare:AllBare s'.gens
 un:Un (frs l) [] H H' s.heap s'.heap
 hok:HOk P w H' s'.heap
 frf:∀ b ∈ frs l,H' b = none
 free:H' x = none
 ex:∃ (B:Heap) (a0:Value),Heap.FlyingW B l x cls a0 s'.heap ∧ ∀ b o,s'.heap.get? b = some o → (H' b ≠ none ∨ ∃ o',s.heap.get? b = some o') → b ∉ frs l → B.get? b = some o
theorem fly_of {P:Program} {w:World} {l l':List Env} {H H':Hp} {s s':Shared} {x:Addr} {cls a0:Value} {B h':Heap} (os:s'.os = s.os) (bare:AllBare s'.gens) (un:Un (frs l) [] H H' s.heap s'.heap) (hok:HOk P w H' s'.heap)
  (frf:∀ b ∈ frs l,H' b = none) (nf:∀ b ∈ frs l,∃ o,s'.heap.get? b = some o ∧ ∀ vs,o.data ≠ .fields vs)
  (cov:∀ b o,s'.heap.get? b = some o → (H' b ≠ none ∨ ∃ o',s.heap.get? b = some o') → b ∉ frs l → B.get? b = some o)
  (sub:∀ b ∈ frs l',b ∈ frs l) (new:∀ b ∈ frs l,b ∉ frs l' → s.heap.get? b = none) (fl:Heap.FlyingW B l' x cls a0 h') (sm:s'.heap.UpToSlots h') (free:H' x = none) :
  Fly P w l' H H' s { s' with heap:=h' } x cls:=by
 have stay:∀ b o,s'.heap.get? b = some o → (H' b ≠ none ∨ ∃ o',s.heap.get? b = some o') → b ∉ frs l → h'.get? b = some o:=fun b o e q hb=>fl.1 b o (cov b o e q hb)
 have out:∀ {b:Addr} {o:Obj},s.heap.get? b = some o → b ∉ frs l' → b ∉ frs l:=fun {b o} e hb z=>by
  rw [new b z hb] at e;cases e
 refine ⟨os,bare,⟨fun b o e n hb hx=>?_,fun b o e n hb hx=>?_,un.free,fun b o e hx=>?_,un.tups,un.frzs,un.tbls⟩,fun a o e=>?_,fun b hb=>frf b (sub b hb),free,B,a0,fl,fun b o e q hb=>?_⟩
 ·exact stay b o (un.keep b o e n (out e hb) hx) (.inr ⟨o,e⟩) (out e hb)
 ·obtain ⟨sl,q⟩:=un.slot b o e n (sub b hb) hx
  obtain ⟨o1,q1,d1⟩:=nf b (sub b hb)
  rw [q] at q1;cases q1
  obtain ⟨sl',q2⟩:=sm b _ q d1
  exact ⟨sl',q2⟩
 ·obtain ⟨o',q⟩:=un.there b o e hx
  by_cases hb:b ∈ frs l
  ·obtain ⟨o1,q1,d1⟩:=nf b hb
   obtain ⟨sl',q2⟩:=sm b _ q1 d1
   exact ⟨_,q2⟩
  ·exact ⟨o',stay b o' q (.inr ⟨o,e⟩) hb⟩
 ·refine (hok a o e).stay (fun b u hb q=>?_) (fun _ q=>q) fun _ _ q=>q
  have tr:H' b ≠ none:=by
   rcases hb with rfl | hb
   ·rw [e];simp
   ·rw [hb];simp
  exact stay b u q (.inl tr) fun z=>tr (frf b z)
 ·have hb':b ∉ frs l:=by
   intro z
   rcases q with q | ⟨o',q⟩
   ·exact q (frf b z)
   ·exact out q hb z
  have ⟨o1,q1⟩ : ∃ o1,s'.heap.get? b = some o1:=by
   rcases q with q | ⟨o',q⟩
   ·cases z:H' b with
    | none=>exact absurd z q
    | some u=>exact (hok b u z).there
   ·exact un.there b o' q (by simp)
  have c:=cov b o1 q1 q hb'
  have z:=fl.1 b o1 c
  have e':h'.get? b = some o:=e
  rw [e'] at z;cases z
  exact c
section
variable {X:Cx} {pins:List (Addr × Obj)} {σ:St} {H H':Hp} {s s':Shared} {x:Addr} {cls:Value}
theorem Inv.unStack (I:Inv X pins σ H s) (hex:X.ex = []) (hfs:∀ b ∈ X.fs,b ∈ frs X.stack):Un (frs X.stack) [] X.H₀ H X.s₀.heap s.heap:=I.base.mono hfs (by rw [hex];exact fun _ z=>z)
theorem Inv.sub (I:Inv X pins σ H s):∀ b ∈ X.fs,b ∈ frs X.stack:=fun b hb=>by
 rcases I.ok.stk with e | ⟨e,hf⟩
 ·rw [e];exact hb
 ·rw [e]
  unfold frs
  rw [List.filterMap_cons,hf]
  exact List.mem_cons_of_mem _ hb
theorem Inv.flyOut (I:Inv X pins σ H s) (hex:X.ex = []) (F:Fly X.prog X.w X.stack H H' s s' x cls) {B h':Heap} {a0:Value} (fl0:Heap.FlyingW B X.stack x cls a0 s'.heap)
  (cov:∀ b o,s'.heap.get? b = some o → (H' b ≠ none ∨ ∃ o',s.heap.get? b = some o') → b ∉ frs X.stack → B.get? b = some o) (fl:Heap.FlyingW B X.outer x cls a0 h') (sm:s'.heap.UpToSlots h') :
  Fly X.prog X.w X.outer X.H₀ H' X.s₀ { s' with heap:=h' } x cls:=by
 refine fly_of (F.os.trans I.os) F.bare ((I.unStack hex I.sub).trans F.un) F.hok F.frf (fun b hb=>(fl0.2.2.1.mem hb).2) (fun b o e q hb=>cov b o e (q.imp id fun ⟨o',z⟩=>I.base.there b o' z (by rw [hex];simp)) hb) I.sub (fun b h1 h2=>?_) fl sm F.free
 rcases List.mem_cons.mp (I.stkSub b h1) with e | e
 ·rw [e];exact Heap.get?_none_of_le I.ok.above
 ·exact absurd e h2
end
def CXR (P:Program) (w:World):CXT:=fun outer H s E e s'=>∃ (x:Addr) (cls:Value) (H':Hp),e = .ref x ∧ Fly P w outer H H' s s' x cls ∧ E cls none H'
section
variable {P:Program} {w:World} {K:PySem.W.Frag} {mg:Str → Option Value} {base:Heap} {N:List Str} {qual:Str} {scope:Scope} {f:Addr} {cd:Value} {A:Around} {outer:List Env} {s₀:Shared} {H₀:Hp} {E:XK}
theorem pass_on:Passes (CXR P w) (cxOf (CXR P w) P w K mg base N qual scope f cd A outer s₀ H₀ E) E:=by
 intro pins σ H s e s' I h
 obtain ⟨x,cls,H',rfl,F,q⟩:=h
 obtain ⟨B,a0,fl,cov⟩:=F.ex
 show wpAny (model P w) (A.deeper (envOfC qual scope s₀.heap.objs.size f cd)) (leaving (envOfC qual scope s₀.heap.objs.size f cd) (.ref x)) _ _ s'
 exact wpAny_leaves_onW I.ok.frames rfl fl fun h' fl' sm=>⟨x,cls,H',rfl,I.flyOut rfl F fl cov fl' sm,q⟩
end
abbrev veMro:List Value:=[.type "ValueError", .type "Exception", .type "BaseException", .type "object"]
theorem own_of {K:PySem.W.Frag} {h₀:Heap} {mg:Str → Option Value} {x:Str} {C:Addr} {bmB:List Value} {newId:String} (X:K.In h₀) (m:mg x = some (.ref C)) (q:PySem.W.excIn K C bmB newId = true):OwnCls x C bmB newId mg h₀:=by
 refine ⟨m,?_⟩
 unfold PySem.W.excIn at q
 split at q
 ·rename_i dd cd sl ho
  split at q
  ·rename_i C' bm k0 k1 k2 k3 n k5 hm hs
   simp only [Bool.and_eq_true,beq_iff_eq,Bool.not_eq_true'] at q
   obtain ⟨⟨⟨⟨⟨rfl,rfl⟩,hdel⟩,ht⟩,hok⟩,hni⟩:=q
   obtain ⟨nm,bs,mro,ns,qn,hd,sn,sub,ab,col,del⟩:=cd
   dsimp only at hm hdel hok hni
   subst hm hdel
   have hsl:sl = #[k0,k1,k2,k3,some (.builtin n),k5]:=by
    obtain ⟨l⟩:=sl
    simp only at hs
    rw [hs]
   subst hsl
   exact ⟨bm,ns,nm,qn,bs,hd,sn,sub,ab,col,dd,k0,k1,k2,k3,k5,_,X _ _ ho,.of_isNs (PySem.W.isNs_of_in X hok),PySem.W.nsMap_none_of_in X hok hni,PySem.W.tail_of_in X ht⟩
  ·cases q
 ·cases q
section
variable {X:Cx} {pins:List (Addr × Obj)} {σ:St} {H:Hp} {s:Shared}
theorem Inv.flyMade (I:Inv X pins σ H s) (hex:X.ex = []) (hst:X.stack = X.env :: X.outer) (hfr:X.env.frame = some X.env.locals) {x:Addr} {cls:Value} {args:List Value} {s1:Shared} {h1:Heap} (e1:s1 = { s with heap:=h1,toks:=s1.toks }) (hx:Heap.MadeExcOf s.heap h1 x cls args)
  {Q:Unit → Shared → Prop} {E:Value → Shared → Prop} (k:∀ s2,Fly X.prog X.w X.outer X.H₀ H X.s₀ s2 x cls → Q () s2):wpAny (model X.prog X.w) X.A (leaving X.env (.ref x)) Q E s1:=by
 have hin:∀ env ∈ X.stack,∀ b,env.frame = some b → b ∈ frs X.stack:=fun env he b hb=>List.mem_filterMap.mpr ⟨env,he,hb⟩
 have hh1:s1.heap = h1:=by rw [e1]
 refine wpAny_leaves_madeW (base:=PySem.W.hideAll s.heap (frs X.stack)) (h:=s.heap) (outer:=X.outer) (by rw [← hst];exact I.ok.frames) hfr (fun b o q=>PySem.W.of_hideAll _ q) (by rw [← hst];exact PySem.W.funFrames_hide I.stack hin) (by rw [hh1];exact hx) fun h2 t fl _ _ sm=>?_
 refine k _ ?_
 have F:Fly X.prog X.w X.outer X.H₀ H X.s₀ { s with heap:=h2 } x cls:=by
  refine fly_of (B:=PySem.W.hideAll s.heap (frs X.stack)) I.os I.bare (I.unStack hex I.sub) I.hok I.stkFree (fun b hb=>(I.stack.mem hb).2) (fun b o e _ hb=>PySem.W.hideAll_get _ e hb) I.sub (fun b h1 h2=>?_) fl ((Heap.UpToSlots.of_keeps hx.keeps).trans (by rw [← hh1];exact sm)) (I.hok.free hx.new)
  rcases List.mem_cons.mp (I.stkSub b h1) with e | e
  ·rw [e];exact Heap.get?_none_of_le I.ok.above
  ·exact absurd e h2
 refine ⟨?_,?_,F.un,F.hok,F.frf,F.free,F.ex⟩
 ·rw [e1];exact I.os
 ·rw [e1];exact I.bare
end
section
variable {P:Program} {w:World} {K:PySem.W.Frag} {mg:Str → Option Value} {base:Heap} {N:List Str} {qual:Str} {scope:Scope} {f:Addr} {cd:Value} {A:Around} {outer:List Env} {s₀:Shared} {H₀:Hp} {E:XK}
def tRaise (E:XK) (C:Addr) (te:TA):TS:=fun _ σ H=>te σ H fun vs H1=>vs.length ≤ 1000 ∧ E (.ref C) none H1
theorem ps_raise {x:Str} {C:Addr} {np cpos pos:Pos} {e:Expr} {es:List Expr} {t:TA} (hg:Gl (cxOf (CXR P w) P w K mg base N qual scope f cd A outer s₀ H₀ E) x) (hm:mg x = some (.ref C)) (hq:PySem.W.excIn K C veMro "ValueError.__new__" = true)
  (ha:PA (cxOf (CXR P w) P w K mg base N qual scope f cd A outer s₀ H₀ E) (e :: es) t) (hd:(x == ("__debug__" : Str)) = false:=by decide)
  (he:starEach (e :: es) (cxOf (CXR P w) P w K mg base N qual scope f cd A outer s₀ H₀ E).env = (false,eval e (cxOf (CXR P w) P w K mg base N qual scope f cd A outer s₀ H₀ E).env) :: starEach es (cxOf (CXR P w) P w K mg base N qual scope f cd A outer s₀ H₀ E).env:=by rfl)
  (hpl:(backTo cpos (starEach es (cxOf (CXR P w) P w K mg base N qual scope f cd A outer s₀ H₀ E).env)).any (·.1) = false:=by rfl) :
  PS (cxOf (CXR P w) P w K mg base N qual scope f cd A outer s₀ H₀ E) (.Raise (some (.Call (.Name x np) (e :: es) [] cpos)) none pos) (tRaise E C t):=by
 intro pins s σ H D I h
 obtain ⟨tl,Nn,nm,q,bs,hdct,sn,sub,ab,col,dd,k0,k1,k2,k3,k5,mN,hC,hN,hni,T⟩:=(own_of I.mod.kin hm hq).obj
 refine wpAny_Raise_call_subU (C:=C) (nm:=nm) (q:=q) (N:=Nn) (bs:=bs) (bm:=tl) (hdct:=hdct) (sn:=sn) (sub:=sub) (ab:=ab) (col:=col) (dd:=dd) (k0:=k0) (k1:=k1) (k2:=k2) (k3:=k3) (k5:=k5)
  PySem.F.excBase_ValueError (bmB:=veMro) (by decide +kernel) PySem.F.excBase_ValueError (mN:=mN) (T.hasType PySem.F.excBase_ValueError.hasBase) (I.ok.hd rfl) (by rw [he];show (false || (backTo cpos (starEach es _)).any (·.1)) = false;rw [hpl];rfl) hni (ld_glob I hg hm ⟨rfl,?_⟩ hd)
 have hw:=ha cpos pins s σ H _ I h
 rw [he] at hw ⊢
 refine Calls.evalArgs_plain (wpAny_mono hw (fun us s2 z=>?_) fun _ _ y=>y)
 obtain ⟨vs,H2,I2,rv,hl,q2⟩:=z
 refine ⟨rfl,by rw [← rv.length];exact Nat.le_of_lt (small1000 hl),I2.bk _ _ hC,hN.keeps I2.bk,T.keeps I2.bk,fun h' ex hx=>?_⟩
 exact I2.flyMade rfl rfl rfl rfl hx fun s3 F=>⟨ex,.ref C,H2,rfl,F,q2⟩
end
def ExcAt (a:Addr) (C:Value) (h:Heap):Prop:=∃ ob,h.get? a = some ob ∧ ob.cls = C
def exO (a:Addr) (C:Value):HO:=.ext (ExcAt a C)
end L2
namespace L2
open PySem PySem.Spec PyProof.Rows PySem.Calls
section
open PySem.Builtin PySem.Builtin.ObjectAttr PySem.Builtin.Getset_descriptor PySem.W
variable {prog:Program} {w:World} {A:Around} {E:Value → Shared → Prop} {s:Shared} {K:PySem.W.Frag} {x D:Addr} {name:Str} {M:Model} {h:Heap}
end
section
variable {X:Cx} {pins:List (Addr × Obj)} {σ:St} {H H':Hp} {s s':Shared} {x:Addr} {cls:Value}
end
section
variable {X:Cx} {k i:Nat} {x y n:Str} {Cy fa:Addr} {fd:FuncData} {ps:List Str} {sp:Sp} {t:TA} {u:Addr → TS} {e:Expr} {es:List Expr} {p yp cpos epos hpos pos:Pos} {b₀:Stmt} {suite:List Stmt}
end
end L2
namespace L2
open PySem PySem.Spec PyProof.Rows
theorem list_addG (l:Addr) (items:Array Value) (n:Nat) (sl:Array (Option Value)) (b:Addr) (items2:Array Value) (n2:Nat) (sl2:Array (Option Value)) (hc0:items.size + items2.size ≤ sizeLine) :
  Meets (Builtin.«list.__add__» ⟨[.ref l,.ref b],[]⟩) (fun _ R s=>s.heap.get? l = some { cls:=.type "list", dict:=none,data:=.seq items n,slots:=sl } ∧ s.heap.get? b = some { cls:=.type "list", dict:=none,data:=.seq items2 n2,slots:=sl2 } ∧ R (.ok (.ret (Value.ref s.heap.objs.size))) { s with heap:=s.heap.push { cls:=Value.type "list", data:=Data.seq (items ++ items2) },toks:=s.toks }) :=
 .of_wp fun prog w A R s h=>by obtain ⟨hp,g,d,tk,os⟩:=s;obtain ⟨hl,hb,h⟩:=h;have f1:=AutoSeq1.idx_int;have f2:=AutoSeq1.sub_tuple_tuple;have f3:=AutoSeq1.sub_list_list;have f4:=AutoSeq1.sub_tuple_list;have f5:=AutoSeq1.sub_list_tuple;wp_walk using AutoSeq1.wpAny_loadPart' hl,AutoSeq1.wpAny_loadPart' hb;exact ⟨_,rfl,h⟩
section
variable {X:Cx}
theorem op_catL0 {pins:List (Addr × Obj)} {s:Shared} {σ:St} {H:Hp} {l b:Addr} {xs zs:List V} {Q:VK} (I:Inv X pins σ H s) (hH:SqL X.K H l xs) (hB:SqL X.K H b zs) (hz:xs.length + zs.length ≤ sizeLine) (q:∀ p,H p = none → Q (.ref p) (upd H p (.lst (xs ++ zs)))) :
  wpAny (model X.prog X.w) X.A (binaryOp .Add (.ref l) (.ref b)) (EP X pins σ Q) X.xe s:=by
 obtain ⟨its,r,⟨⟨c1,d1,t1,sl1⟩,n,e,h1,h2,h3⟩,z⟩:=I.list hH
 obtain ⟨its2,r2,⟨⟨c2,d2,t2,sl2⟩,n2,e2,g1,g2,g3⟩,z2⟩:=I.list hB
 simp only at h1 h2 h3 g1 g2 g3
 subst h1 h2 h3 g1 g2 g3
 refine concat_meets ⟨_,e,rfl⟩ ⟨_,e2,rfl⟩ noFill_list_add seq_list_add F.slot_list_add F.entry_list_add (F.args_list_add_2 _ _) (list_addG l its.toArray n sl1 b its2.toArray n2 sl2 (by rw [List.size_toArray,List.size_toArray,← r.length,← r2.length];exact hz)) ⟨e,e2,?_⟩
 have ea:its.toArray ++ its2.toArray = (its ++ its2).toArray:=by simp
 rw [ea]
 exact ⟨.ref _,_,I.lnew (t':=s.toks) (r.append r2) (by rw [List.length_append];exact hz),rfl,q _ I.fresh⟩
theorem op_catU0 {pins:List (Addr × Obj)} {s:Shared} {σ:St} {H:Hp} {a b:Addr} {xs ys:List V} {Q:VK} (I:Inv X pins σ H s) (ha:SqT X.K H a xs) (hb:SqT X.K H b ys) (hz:xs.length + ys.length ≤ sizeLine) (q0:xs = [] → Q (.ref b) H)
  (q1:xs ≠ [] → ys = [] → Q (.ref a) H) (q2:xs ≠ [] → ys ≠ [] → ∀ p,H p = none → Q (.ref p) (upd H p (.tup (xs ++ ys)))) :
  wpAny (model X.prog X.w) X.A (binaryOp .Add (.ref a) (.ref b)) (EP X pins σ Q) X.xe s:=by
 by_cases hx:xs = []
 ·obtain ⟨its,r1,p1,_⟩:=I.tuple ha
  obtain ⟨its2,r2,p2,_⟩:=I.tuple hb
  have hi:its = []:=r1.nil_iff.mpr hx
  subst hi
  obtain ⟨⟨cls,dd,data,sl⟩,ho,hc,n,hd⟩:=id p1
  obtain ⟨⟨cls2,dd2,data2,sl2⟩,ho2,hc2,n2,hd2⟩:=id p2
  simp only at hc hd hc2 hd2
  subst hc hd hc2 hd2
  exact concat_meets ⟨_,ho,rfl⟩ ⟨_,ho2,rfl⟩ noFill_tuple_add seq_tuple_add PySem.F.slot_tuple_add PySem.F.entry_tuple_add (PySem.F.args_tuple_add_2 _ _)
   (tuple_addW0 a b ([]:List Value).toArray its2.toArray n n2 dd dd2 sl sl2 rfl) ⟨ho,ho2,⟨.ref b,H,I,rfl,q0 hx⟩⟩
 ·exact op_catT pins s σ H (.ref a) (.ref b) _ _ Q I rfl rfl ⟨a,b,xs,ys,rfl,rfl,ha,hb,hx,hz,q1 hx,q2 hx⟩
end
end L2
namespace HT
open PySem PyProof.Rows
section
variable {prog:Program} {w:World} {A:Around} {E:Value → Shared → Prop} {s:Shared}
theorem getItem_tuple_whole {t sl:Addr} {items:Array Value} {vl vu:Value} {lo hi:Option Int} {Q:Value → Shared → Prop} (ht:IsTup s.heap t items) (hs:s.heap.IsSliceOf sl vl vu .none) (pl:IsPart vl lo) (pu:IsPart vu hi)
  (hw:sIx items.size 0 lo = 0 ∧ sIx items.size items.size hi = items.size) (h:Q (.ref t) s):wpAny (model prog w) A (getItem (.ref t) (.ref sl)) Q E s:=by
 obtain ⟨os,hos,hcs,hds⟩:=id hs
 have hTs:s.TypeIs (.ref sl) "slice" := ⟨os,hos,hcs⟩
 unfold getItem
 try with_reducible refine wpAny_holding ?_
 first | refine wpAny_bind (wpAny_pure ?_) | skip
 refine wpAny_bind (wpAny_sequenceKey ht.typeIs (by decide) ?_)
 refine wpAny_bind (wpAny_callSpecial?_slot (name:=Str.ofString "__getitem__") ht.typeIs PyProof.Rows.slot_tuple_getitem
  (wpAny_call_entry PyProof.Rows.slot_tuple_getitem ht.typeIs entry_tuple_getitem ?_ (args_tuple_getitem _ _)))
 show wpAny _ _ (Builtin.Tuple.tupleItemsOf (.ref t) >>= _) _ _ s
 refine wpAny_bind (tupleItemsOf_ ht ?_)
 refine wpAny_bind (wpAny_typeOf hTs ?_)
 rw [if_pos (by decide)]
 refine wpAny_bind (sliceApplied_gen hs pl pu ?_)
 have hyes:(((sIx items.size 0 lo:Nat):Int) == 0 && (1:Int) == 1 && (sIx items.size items.size hi - sIx items.size 0 lo) == items.size) = true:=by
  rw [hw.1,hw.2];simp
 show wpAny _ _ (if (((sIx items.size 0 lo:Nat):Int) == 0 && (1:Int) == 1 && (sIx items.size items.size hi - sIx items.size 0 lo) == items.size) = true then _ else _) _ _ s
 rw [if_pos hyes]
 first
  | exact wpAny_bind (wpAny_bind (wpAny_typeOf ht.typeIs (wpAny_pure (by rw [if_pos (by decide)];exact wpAny_bind (wpAny_rule (wpAny_pure ⟨_,rfl,wpAny_pure h⟩))))))
  | (refine wpAny_bind (m:=Builtin.Tuple.tupleIsExact _) (wpAny_bind (wpAny_typeOf ht.typeIs (wpAny_pure ?_)))
     rw [if_pos (by decide)]
     trace_state
     exact wpAny_bind (wpAny_rule (wpAny_pure ⟨_,rfl,wpAny_pure h⟩)))
end
end HT
namespace L2
open PySem PySem.Spec PyProof.Rows
section
variable {X:Cx} {pins:List (Addr × Obj)} {σ:St} {H:Hp} {s:Shared}
theorem Inv.turnNew {fp:List Addr} {T:Addr} {o:HO} {h':Heap} {t':Nat} (I:Inv X pins σ H s) (k:∀ b u,b ∉ fp → s.heap.get? b = some u → h'.get? b = some u) (hf:∀ b ∈ fp,FpOk X pins H b) (hT:s.heap.objs.size ≤ T) (new:ObjOk X.prog X.w (upd H T o) h' T o) :
  Inv X pins σ (upd H T o) { s with heap:=h',toks:=t' }:=by
 have hn:H T = none:=I.hok.fresh hT
 have ntr:∀ b u,H b = some u → b ∉ fp:=fun b u e z=>by rw [(hf b z).1] at e;cases e
 refine I.call (g':=s.gens) (d':=s.drawn) (ch:=fp) ⟨fun b u q _ _ hx=>k b u hx q,fun b u q _ _ hx=>⟨u.slots,k b u hx q⟩,fun b u q n _=>?_,fun b u q hx=>⟨u,k b u hx q⟩,fun b xs q=>?_,fun b u xs q=>?_,fun b ps q=>?_⟩ (fun b u e=>?_) I.bare (fun b hb=>?_)
 ·rw [upd_ne (Nat.ne_of_lt (Nat.lt_of_lt_of_le (Heap.lt_size q) hT))];exact n
 ·rw [upd_ne (ne_of_none q hn)];exact q
 ·rw [upd_ne (ne_of_none q hn)];exact q
 ·exact ⟨#[],by rw [upd_ne (ne_of_none q hn),q];simp⟩
 ·by_cases hb:b = T
  ·subst hb;rw [upd_same] at e;cases e;exact new
  ·rw [upd_ne hb] at e
   refine (I.hok b u e).stay (fun c v hc q=>k c v ?_ q) (fun c q=>by rw [upd_ne (ne_of_none q hn)];exact q) fun c xs q=>by rw [upd_ne (ne_of_none q hn)];exact q
   rcases hc with rfl | hc
   ·exact ntr c u e
   ·exact ntr c _ hc
 ·obtain ⟨_,f1,_,f3,f4,f5⟩:=hf b hb
  exact ⟨f3,f1,f4,f5⟩
theorem Inv.turnedL {fp:List Addr} {h':Heap} {t':Nat} (I:Inv X pins σ H s) (k:∀ b u,b ∉ fp → s.heap.get? b = some u → h'.get? b = some u) (hf:∀ b ∈ fp,FpOk X pins H b):Inv X pins σ H { s with heap:=h',toks:=t' }:=by
 have ntr:∀ b u,H b = some u → b ∉ fp:=fun b u e z=>by rw [(hf b z).1] at e;cases e
 refine I.call (g':=s.gens) (d':=s.drawn) (ch:=fp) ⟨fun b u q _ _ hx=>k b u hx q,fun b u q _ _ hx=>⟨u.slots,k b u hx q⟩,fun b u q n _=>n,fun b u q hx=>⟨u,k b u hx q⟩,fun b xs q=>q,fun b u xs q=>q,fun b ps q=>⟨#[],by rw [q];simp⟩⟩ (fun b u e=>?_) I.bare (fun b hb=>?_)
 ·refine (I.hok b u e).stay (fun c v hc q=>k c v ?_ q) (fun c q=>q) fun c xs q=>q
  rcases hc with rfl | hc
  ·exact ntr c u e
  ·exact ntr c _ hc
 ·obtain ⟨_,f1,_,f3,f4,f5⟩:=hf b hb
  exact ⟨f3,f1,f4,f5⟩
end
def Ite (K:PySem.W.Frag) (a:Addr):It :=
 ⟨fun i H=>∃ xs x,SqL K H a xs ∧ xs[i]? = some x,fun i H x H'=>∃ T p,H T = none ∧ x = .ref T ∧ H' = upd H T (.tup [.int i,p]) ∧ ∀ xs,SqL K H a xs → xs[i]? = some p,fun i H=>∃ xs,SqL K H a xs ∧ xs.length ≤ i⟩
theorem turn_enum {P:Program} {w:World} {K:PySem.W.Frag} {elts:List Expr} {x1:Nat} {pos:Pos} {a e it:Addr} (hei:e ≠ it):Turn P w K (.Tuple elts x1 pos) (Ite K a) [e,it] e (fun i h=>(∃ old,IsEnum h e it (i:Nat) old) ∧ h.IsListIter it a i) where
 mem:=by simp
 obj:=fun i h st b hb=>by
  obtain ⟨⟨old,he⟩,o,ho,c,d⟩:=st
  rcases List.mem_cons.mp hb with rfl | hb
  ·exact ⟨_,he,fun v z=>by cases z⟩
  ·have z:b = it:=by simpa using hb
   subst z
   exact ⟨o,ho,fun v z=>by rw [d] at z;cases z⟩
 keep:=fun i h h' st k=>⟨⟨st.1.choose,k e (by simp) _ st.1.choose_spec⟩,st.2.at fun o q=>k it (by simp) o q⟩
 item:=by
  intro X hP hw hK hc i pins s σ H E I hf st hg
  subst hP hw hK
  obtain ⟨⟨old,he⟩,hit⟩:=st
  obtain ⟨xs,x,hq,hx⟩:=hg
  obtain ⟨its,rv,p,hz⟩:=I.list hq
  obtain ⟨u,hu,ru⟩:=rv.get hx
  refine wpAny_pyNext_enum_item he hit p.isList (x:=u) (by simpa using hu) hei fun h1 heo hit1 ht1 hz1 hk1=>⟨_,rfl,?_⟩
  refine wpAny_letOwnedTupleGo_enum heo fun h2 he2 hs2=>?_
  have hsz:∀ {c:Addr} {ob:Obj},s.heap.get? c = some ob → c ≠ s.heap.objs.size:=fun q=>Nat.ne_of_lt (Heap.lt_size q)
  have eT:e ≠ s.heap.objs.size:=hsz he
  have iT:it ≠ s.heap.objs.size:=by obtain ⟨_,q,_⟩:=id hit;exact hsz q
  have hs2':Heap.SameBut e h1 h2:=hs2
  have hT:H s.heap.objs.size = none:=I.hok.fresh (Nat.le_refl _)
  have I2:Inv X pins σ (upd H s.heap.objs.size (.tup [.int i,x])) { s with heap:=h2,toks:=s.toks + 1 }:=by
   refine I.turnNew (fp:=[e,it]) (fun b ob hb q=>?_) hf (Nat.le_refl _) ?_
   ·have h1':b ≠ e:=fun z=>hb (by simp [z])
    have h2':b ≠ it:=fun z=>hb (by simp [z])
    exact hs2'.extBut b ob h1' (hk1 b ob h1' h2' q)
   ·have lt2:(2:Nat) ≤ sizeLine:=by decide
    exact ⟨lt2,[.int i s.toks,u],.cons ⟨_,rfl⟩ (.cons ru .nil),⟨_,hs2'.extBut _ _ (Ne.symm eT) ht1,rfl,_,rfl⟩⟩
  refine ⟨.ref s.heap.objs.size,_,I2,rfl,⟨_,x,hT,rfl,rfl,fun ys hy=>by rw [I.list_inj hy hq];exact hx⟩,⟨⟨_,he2⟩,hit1.extBut hs2'.extBut (Ne.symm hei)⟩,fun b hb=>?_⟩
  have nb:b ≠ s.heap.objs.size:=by
   rcases List.mem_cons.mp hb with rfl | hb
   ·exact eT
   ·have z:b = it:=by simpa using hb
    subst z;exact iT
  rw [upd_ne nb];exact (hf b hb).1
 done:=by
  intro X hP hw hK hc i pins s σ H E I hf st hg
  subst hP hw hK
  obtain ⟨⟨old,he⟩,hit⟩:=st
  obtain ⟨xs,hq,hx⟩:=hg
  obtain ⟨its,rv,p,hz⟩:=I.list hq
  have hl:=rv.length
  refine wpAny_pyNext_enum_end (I.ok.hd hc) he hit p.isList (by simp;omega) fun h' eb=>⟨rfl,?_⟩
  exact I.turnedL (fp:=[e,it]) (t':=s.toks) (fun b ob hb q=>eb b ob (fun z=>hb (by simp [z])) q) hf
 self:=fun _ _ _ _ _ st h=>wpAny_pyIter_enum st.1.choose_spec h
def iEnum (K:PySem.W.Frag) (ta:TA):TI:=fun σ H R=>ta σ H fun vs H1=>∃ a,vs = [.ref a] ∧ (∃ xs,SqL K H1 a xs) ∧ R (Ite K a) H1
theorem pi_enum {X:Cx} {elts:List Expr} {x1:Nat} {tpos:Pos} {a:Expr} {ta:TA} {p pos:Pos} (hg:Gl X "enumerate") (hm:X.mg "enumerate" = none) (ha:PA X [a] ta) (hs:starEach [a] X.env = [(false,eval a X.env)]:=by rfl):PI X (.Tuple elts x1 tpos) (.Call (.Name "enumerate" p) [a] [] pos) (iEnum X.K ta):=by
 intro pins s σ H R I h
 refine Call_ (ld_blt I hg hm bt_enumerate (PyProof.Rows.callWith_type1 (thn (ha pos pins s σ H _ I h) fun us s1 ⟨vs,H1,I1,r1,q1⟩=>?_) hs rfl))
 obtain ⟨l,e,⟨xs,hq⟩,q⟩:=q1
 subst e
 cases r1 with
 | cons r rr =>
  cases rr
  cases r
  obtain ⟨its,rv,pl,hz⟩:=I1.list hq
  refine call_enumerate_list pl.isList fun h' he hit hsz hk=>?_
  have hI:Inv X pins σ H1 { s1 with heap:=h' }:=I1.kept (t':=s1.toks) hk
  refine wpAny_pyIter_enum he ?_
  refine ⟨s1.heap.objs.size + 1,[s1.heap.objs.size + 1,s1.heap.objs.size],_,Ite X.K l,H1,rfl,hI,turn_enum (Nat.succ_ne_self _),⟨⟨_,he⟩,hit⟩,fun b hb=>?_,q⟩
  have hb':s1.heap.objs.size ≤ b:=by
   rcases List.mem_cons.mp hb with rfl | hb
   ·exact Nat.le_succ _
   ·have z:b = s1.heap.objs.size:=by simpa using hb
    exact Nat.le_of_eq z.symm
  exact I1.fpOk hb' (I1.hok.fresh hb')
end L2
namespace L2
open PySem PySem.Spec PyProof.Rows
section
variable {prog:Program} {w:World} {A:Around} {E:Value → Shared → Prop} {s:Shared}
theorem draw_list {it t:Addr} {items:Array Value} (hne:t ≠ it):∀ (n i:Nat) (s:Shared) (Q:List Value → Shared → Prop),s.heap.IsListIter it t i → s.heap.IsList t items → i + n ≤ items.size →
  (∀ h',h'.IsListIter it t (i + n) → Heap.SameBut it s.heap h' → Q ((items.toList.drop i).take n) { s with heap:=h' }) → wpAny (model prog w) A (draw (.ref it) n) Q E s
 | 0,i,s,Q,hit,_,_,hQ=>by
  show wpAny _ _ (pure []) Q E s
  exact wpAny_pure (by simpa using hQ s.heap hit (Heap.SameBut.refl ..))
 | n + 1,i,s,Q,hit,ht,hle,hQ=>by
  have hlt:i < items.size:=by omega
  show wpAny _ _ (pyNext (.ref it) >>= _) Q E s
  refine wpAny_bind (wpAny_pyNext_list_item hit ht (x:=items[i]) (by simp [hlt]) fun h₁ hit₁ hs₁=>?_)
  refine wpAny_bind (wpAny_holding (draw_list hne n (i + 1) _ _ hit₁ (ht.extBut hs₁.extBut hne) (by omega) fun h₂ hit₂ hs₂=>wpAny_pure ?_))
  have hd:items.toList.drop i = items[i] :: items.toList.drop (i + 1):=by simp [List.drop_eq_getElem_cons,hlt]
  have:=hQ h₂ (by rw [show i + (n + 1) = i + 1 + n by omega];exact hit₂) (hs₁.trans hs₂)
  rw [hd,List.take_succ_cons] at this
  exact this
theorem unpackItems_list {t:Addr} {items:Array Value} {Q:List Value → Shared → Prop} (hh:A.handled = none) (ht:s.heap.IsList t items)
  (hQ:∀ h',Heap.ExtBut s.heap.objs.size s.heap h' → Q items.toList { s with heap:=h' }):wpAny (model prog w) A (unpackItems (.ref t) items.size none) Q E s:=by
 have hlt:t ≠ s.heap.objs.size:=by obtain ⟨o,ho,_⟩:=ht;exact Nat.ne_of_lt (Heap.lt_size ho)
 unfold unpackItems
 refine wpAny_bind ?_
 ·unfold notIterableAtAll
  refine wpAny_bind (wpAny_specialOf ht.typeIs F.slot_list_iter.lookup ?_)
  refine wpAny_pure ?_
  simp only [Bool.false_eq_true,if_false]
  refine wpAny_bind (wpAny_holding (wpAny_pyIter_list ht ?_))
  refine wpAny_bind (wpAny_holding (draw_list hlt items.size 0 _ _ ⟨_,Heap.get?_push_size _ rfl,rfl,rfl⟩ (ht.push _) (by omega) fun h₁ hit₁ hs₁=>?_))
  have hall:List.take items.size (List.drop 0 items.toList) = items.toList:=by
   rw [List.drop_zero];exact List.take_of_length_le (by simp)
  rw [hall]
  rw [if_neg (by simp)]
  have ht₁:h₁.IsList t items:=(ht.push _).extBut hs₁.extBut hlt
  refine wpAny_bind (wpAny_holding (wpAny_pyNext_list_end hh hit₁ ht₁ (by simp) fun h₂ he₂=>?_))
  simp only [Option.isSome_none,Bool.false_eq_true,if_false]
  refine wpAny_pure (hQ h₂ fun b o hb e=>he₂ b o hb (hs₁.extBut b o hb (Heap.get?_push_of_some _ e)))
theorem assign_Tuple_list {env:Env} {elts:List Expr} {x1} {pos:Pos} {t:Addr} {items:Array Value} {Q:Unit → Shared → Prop} (hh:A.handled = none) (ht:s.heap.IsList t items)
  (hn:(assignEach elts env).length = items.size) (hstar:(assignEach elts env).findIdx? (·.1) = none)
  (h:∀ h',Heap.ExtBut s.heap.objs.size s.heap h' → wpAny (model prog w) A (assignInOrder ((assignEach elts env).map (·.2)) items.toList) Q E { s with heap:=h' }) :
  wpAny (model prog w) A (assign (.Tuple elts x1 pos) env (.ref t)) Q E s:=by
 rw [assign_Tuple]
 refine wpAny_bind (wpAny_standAt ?_)
 unfold unpack
 rw [hn,hstar]
 exact wpAny_bind (wpAny_holding (unpackItems_list hh ht h))
end
end L2
namespace L2
open PySem PySem.Spec PyProof.Rows
def ItK:Bool → Heap → Addr → Addr → Nat → Prop
 | false,h,a,l,i=>h.IsListIter a l i
 | true,h,a,l,i=>h.IsTupleIter a l i
def SqK:Bool → Heap → Addr → Array Value → Prop
 | false,h,a,xs=>h.IsList a xs
 | true,h,a,xs=>h.IsTuple a xs
def itObj (p:Bool) (l:Addr):Obj:={ cls:=.type (if p then "tuple_iterator" else "list_iterator"),data:=.fields #[.ref l,.int 0 0] }
theorem ItK.extBut {p:Bool} {h h':Heap} {a b l:Addr} {i:Nat} (x:ItK p h a l i) (hs:Heap.ExtBut b h h') (hab:a ≠ b):ItK p h' a l i:=by
 cases p
 ·exact Heap.IsListIter.extBut x hs hab
 ·exact Heap.IsTupleIter.extBut x hs hab
theorem ItK.at {p:Bool} {h h':Heap} {a l:Addr} {i:Nat} (x:ItK p h a l i) (k:∀ o,h.get? a = some o → h'.get? a = some o):ItK p h' a l i:=by
 cases p
 ·obtain ⟨o,e,r⟩:=(show h.IsListIter a l i from x);exact ⟨o,k o e,r⟩
 ·obtain ⟨o,e,r⟩:=(show h.IsTupleIter a l i from x);exact ⟨o,k o e,r⟩
theorem ItK.flds {p:Bool} {h:Heap} {a l:Addr} {i:Nat} (x:ItK p h a l i):∃ o vs,h.get? a = some o ∧ o.data = .fields vs:=by
 cases p
 ·obtain ⟨o,e,_,d⟩:=(show h.IsListIter a l i from x);exact ⟨o,_,e,d⟩
 ·obtain ⟨o,e,_,d⟩:=(show h.IsTupleIter a l i from x);exact ⟨o,_,e,d⟩
theorem ItK.new {p:Bool} {h:Heap} {a l:Addr} (e:h.get? a = some (itObj p l)):ItK p h a l 0:=by
 cases p
 ·exact ⟨_,e,rfl,rfl⟩
 ·exact ⟨_,e,rfl,rfl⟩
theorem SqK.extBut {p:Bool} {h h':Heap} {a b:Addr} {xs:Array Value} (x:SqK p h a xs) (hs:Heap.ExtBut b h h') (hab:a ≠ b):SqK p h' a xs:=by
 cases p
 ·exact Heap.IsList.extBut x hs hab
 ·exact Heap.IsTuple.extBut x hs hab
theorem SqK.push {p:Bool} {h:Heap} {a:Addr} {xs:Array Value} (x:SqK p h a xs) (o:Obj):SqK p (h.push o) a xs:=by
 cases p
 ·exact Heap.IsList.push x o
 ·exact Heap.IsTuple.push x o
section
variable {prog:Program} {w:World} {A:Around} {E:Value → Shared → Prop} {s:Shared}
theorem iterK {p:Bool} {l:Addr} {xs:Array Value} {Q:Value → Shared → Prop} (x:SqK p s.heap l xs) (h:Q (.ref s.heap.objs.size) { s with heap:=s.heap.push (itObj p l) }):wpAny (model prog w) A (pyIter (.ref l)) Q E s:=by
 cases p
 ·exact wpAny_pyIter_list x h
 ·exact wpAny_pyIter_tuple x h
theorem nextT_item {ia la:Addr} {i:Nat} {zs} {x:Value} {Q:Value → Shared → Prop} (ki:s.heap.IsTupleIter ia la i)
  (kl:s.heap.IsTuple la zs) (kx:zs[i]? = some x)
  (kQ:∀ h',h'.IsTupleIter ia la (i + 1) → Heap.SameBut ia s.heap h' → Q x { s with heap:=h' }) :
  wpAny (model prog w) A (Builtin.SmallTypes.nextOf (.ref ia)) Q E s:=by
 obtain ⟨ob,ko,kc,kd⟩:=id ki
 obtain ⟨oq,kol,_,nq,kdl⟩:=kl
 unfold Builtin.SmallTypes.nextOf
 refine wpAny_bind (wpAny_callSpecial?_slot (name:=Str.ofString "__next__") ki.typeIs F.slot_tuple_iterator_next
  (wpAny_call_entry F.slot_tuple_iterator_next ki.typeIs F.entry_tuple_iterator_next ?_ (F.args_tuple_iterator_next_1 _)))
 show wpAny _ _ (field (.ref ia) 0 >>= _) _ _ s
 refine wpAny_bind (wpAny_field ko kd (x:=.ref la) rfl ?_)
 show wpAny _ _ (if (Value.ref la == Value.none) = true then _ else _) _ _ s
 rw [if_neg (show ¬ ((Value.ref la == Value.none) = true) from Bool.false_ne_true)]
 show wpAny _ _ (field (.ref ia) 1 >>= _) _ _ s
 refine wpAny_bind (wpAny_field ko kd (x:=.int i 0) rfl ?_)
 show wpAny _ _ (seqItems? (.ref la) >>= _) _ _ s
 refine wpAny_bind (wpAny_seqItems kol kdl ?_)
 simp only [Int.toNat_natCast,kx]
 refine wpAny_bind (wpAny_setField ko kd (by simp) (wpAny_pure ⟨x,rfl,wpAny_pure (kQ _ ?_ (Heap.SameBut.update ..))⟩))
 exact ⟨_,Heap.get?_update_self _ ko (Obj.isFreed_of_fields (Obj.data_mapFields kd _)),(Obj.cls_mapFields ..).trans kc,by
  rw [Obj.data_mapFields kd];simp [rawInt]⟩
theorem nextT_end {ia la:Addr} {i:Nat} {zs} {Q:Value → Shared → Prop} (kh:A.handled = none)
  (ki:s.heap.IsTupleIter ia la i) (kl:s.heap.IsTuple la zs) (kx:zs[i]? = none)
  (kE:∀ h' e,Heap.ExtBut ia s.heap h' → (∃ ob,h'.get? e = some ob ∧ ob.cls = .type "StopIteration") → E (.ref e) { s with heap:=h' }) :
  wpAny (model prog w) A (Builtin.SmallTypes.nextOf (.ref ia)) Q E s:=by
 obtain ⟨ob,ko,kc,kd⟩:=id ki
 obtain ⟨oq,kol,_,nq,kdl⟩:=kl
 unfold Builtin.SmallTypes.nextOf
 refine wpAny_bind (wpAny_callSpecial?_slot (name:=Str.ofString "__next__") ki.typeIs F.slot_tuple_iterator_next
  (wpAny_call_entry F.slot_tuple_iterator_next ki.typeIs F.entry_tuple_iterator_next ?_ (F.args_tuple_iterator_next_1 _)))
 show wpAny _ _ (field (.ref ia) 0 >>= _) _ _ s
 refine wpAny_bind (wpAny_field ko kd (x:=.ref la) rfl ?_)
 show wpAny _ _ (if (Value.ref la == Value.none) = true then _ else _) _ _ s
 rw [if_neg (show ¬ ((Value.ref la == Value.none) = true) from Bool.false_ne_true)]
 show wpAny _ _ (field (.ref ia) 1 >>= _) _ _ s
 refine wpAny_bind (wpAny_field ko kd (x:=.int i 0) rfl ?_)
 show wpAny _ _ (seqItems? (.ref la) >>= _) _ _ s
 refine wpAny_bind (wpAny_seqItems kol kdl ?_)
 simp only [Int.toNat_natCast,kx]
 refine wpAny_bind (wpAny_rule (wpAny_bind (wpAny_setField ko kd (by simp) ?_)))
 show wpAny _ _ (newExc (.type "StopIteration") [] >>= _) _ _ _
 refine wpAny_bind ?_
 simp only [newExc,newTuple]
 refine wpAny_bind (wpAny_newObj_type ?_ (by size_fits))
 refine wpAny_bind (m:=firstArgMember _ _) (wpAny_of_eq (a:=Value.none) (by first | rfl | (simp only [firstArgMember];rfl)) ?_)
 refine wpAny_newObj_type ?_ (by size_fits)
 simp only [raiseNew]
 refine wpAny_bind (wpAny_handled ?_)
 first | rw [show A.in1.handled = none from kh] | rw [kh]
 refine wpAny_bind (wpAny_pure (wpAny_throw ?_))
 exact kE _ _ (((Heap.SameBut.update ..).extBut.push _).push _) ⟨_,Heap.get?_push_size _ rfl,rfl⟩
theorem nextK_item {p:Bool} {ia la:Addr} {i:Nat} {zs:Array Value} {x:Value} {Q:Value → Shared → Prop} (ki:ItK p s.heap ia la i) (kl:SqK p s.heap la zs) (kx:zs[i]? = some x)
  (kQ:∀ h',ItK p h' ia la (i + 1) → Heap.SameBut ia s.heap h' → Q x { s with heap:=h' }):wpAny (model prog w) A (Builtin.SmallTypes.nextOf (.ref ia)) Q E s:=by
 cases p
 ·exact wpAny_nextOf_list_item ki kl kx kQ
 ·exact nextT_item ki kl kx kQ
theorem nextK_end {p:Bool} {ia la:Addr} {i:Nat} {zs:Array Value} {Q:Value → Shared → Prop} (kh:A.handled = none) (ki:ItK p s.heap ia la i) (kl:SqK p s.heap la zs) (kx:zs[i]? = none)
  (kE:∀ h' e,Heap.ExtBut ia s.heap h' → (∃ o,h'.get? e = some o ∧ o.cls = .type "StopIteration") → E (.ref e) { s with heap:=h' }):wpAny (model prog w) A (Builtin.SmallTypes.nextOf (.ref ia)) Q E s:=by
 cases p
 ·exact wpAny_nextOf_list_end kh ki kl kx kE
 ·exact nextT_end kh ki kl kx kE
end
section
variable {prog:Program} {w:World} {A:Around} {E:Value → Shared → Prop} {s:Shared}
end
end L2
namespace L2
open PySem PySem.Spec PyProof.Rows
def SqB (K:PySem.W.Frag):Bool → Hp → Addr → List V → Prop
 | false,H,a,xs=>SqL K H a xs
 | true,H,a,xs=>SqT K H a xs
theorem SqK.here {p:Bool} {h:Heap} {a:Addr} {xs:Array Value} (x:SqK p h a xs):∃ o,h.get? a = some o:=by
 cases p
 ·obtain ⟨o,e,_⟩:=(show h.IsList a xs from x);exact ⟨o,e⟩
 ·obtain ⟨o,e,_⟩:=(show h.IsTuple a xs from x);exact ⟨o,e⟩
theorem Inv.seqB {X:Cx} {pins:List (Addr × Obj)} {σ:St} {H:Hp} {s:Shared} {p:Bool} {a:Addr} {xs:List V} (I:Inv X pins σ H s) (h:SqB X.K p H a xs):∃ its:List Value,Vals xs its ∧ SqK p s.heap a its.toArray ∧ xs.length ≤ sizeLine:=by
 cases p
 ·obtain ⟨its,rv,pl,hz⟩:=I.list h
  exact ⟨its,rv,pl.isList,hz⟩
 ·obtain ⟨its,rv,pl,hz⟩:=I.tuple h
  exact ⟨its,rv,pl,hz⟩
end L2
namespace Dl
open PySem
inductive D where
 | non | bl (b:Bool) | int (i:Int) | str (x:Str) | ty (n:String) | cls (c:Str)
 | tup (xs:List D) | lst (xs:List D) | exc (c:Str) | ins (c:Str) (ns:List Str) (vs:List D)
inductive Res (α:Type) where
 | ok (a:α) | ex (c:Str) | bad
def Res.bind {α β:Type}:Res α → (α → Res β) → Res β
 | .ok a,f=>f a
 | .ex c,_=>.ex c
 | .bad,_=>.bad
theorem ok_bind {α β:Type} (a:α) (f:α → Res β):(Res.ok a).bind f = f a:=rfl
inductive Cl where
 | no | im (d:D) | ow (ds:List D)
abbrev Ev:=List Cl
abbrev ME:=Ev → Res D
abbrev MB:=Ev → Res Bool
abbrev MA:=Ev → Res (List D)
def getC:Option Cl → Res D
 | some (.im d)=>.ok d
 | _=>.bad
def v (i:Nat):ME:=fun ρ=>getC ρ[i]?
def c (d:D):ME:=fun _=>.ok d
def o1 (f:D → Res D) (a:ME):ME:=fun ρ=>(a ρ).bind f
def o2 (f:D → D → Res D) (a b:ME):ME:=fun ρ=>(a ρ).bind fun x=>(b ρ).bind fun y=>f x y
def anil:MA:=fun _=>.ok []
def acons (a:ME) (r:MA):MA:=fun ρ=>(a ρ).bind fun x=>(r ρ).bind fun xs=>.ok (x :: xs)
def on (f:List D → Res D) (a:MA):ME:=fun ρ=>(a ρ).bind f
def mtp (a:MA):ME:=fun ρ=>(a ρ).bind fun xs=>.ok (.tup xs)
def mls (a:MA):ME:=fun ρ=>(a ρ).bind fun xs=>.ok (.lst xs)
def tru:D → Res Bool
 | .bl b=>.ok b
 | _=>.bad
def trb (a:ME):MB:=fun ρ=>(a ρ).bind tru
def bAnd (a b:MB):MB:=fun ρ=>(a ρ).bind fun x=>if x = true then b ρ else .ok false
def bOr (a b:MB):MB:=fun ρ=>(a ρ).bind fun x=>if x = true then .ok true else b ρ
def bNot (a:MB):MB:=fun ρ=>(a ρ).bind fun x=>.ok (!x)
def eAnd (a b:ME):ME:=fun ρ=>(trb a ρ).bind fun x=>if x = true then b ρ else .ok (.bl false)
def eNot (a:ME):ME:=fun ρ=>(trb a ρ).bind fun x=>.ok (.bl (!x))
def ife (t:MB) (a b:ME):ME:=fun ρ=>(t ρ).bind fun x=>if x = true then a ρ else b ρ
def mulOk (a b:Int):Bool:=decide (a.natAbs < 2 ^ 64) || decide (b.natAbs < 2 ^ 64) || decide (a.natAbs.log2 + b.natAbs.log2 < 100000000)
def LIM:Nat:=1000000
def dAdd:D → D → Res D
 | .int a,.int b=>.ok (.int (a + b))
 | .lst a,.lst b=>if a.length + b.length ≤ LIM then .ok (.lst (a ++ b)) else .bad
 | .tup a,.tup b=>if a.length + b.length ≤ LIM then .ok (.tup (a ++ b)) else .bad
 | .str a,.str b=>if a.length + b.length ≤ LIM then .ok (.str (a ++ b)) else .bad
 | _,_=>.bad
def ii (f:Int → Int → Res D):D → D → Res D
 | .int a,.int b=>f a b
 | _,_=>.bad
def iSub (a b:Int):Res D:=.ok (.int (a - b))
def iMul (a b:Int):Res D:=if mulOk a b = true then .ok (.int (a * b)) else .bad
def iMod (a b:Int):Res D:=if 0 < b then .ok (.int (a % b)) else if b = 0 then .bad else .ok (.int (a.fmod b))
def iDiv (a b:Int):Res D:=if b.natAbs.log2 < 9000 then (if 0 < b then .ok (.int (a / b)) else if b = 0 then .bad else .ok (.int (a.fdiv b))) else .bad
def iPow (a b:Int):Res D:=if 0 ≤ b ∧ b ≤ 1000000 ∧ a.natAbs < 2 ^ 64 then .ok (.int (a ^ b.toNat)) else .bad
def iShl (a b:Int):Res D:=if 0 ≤ b ∧ b ≤ 1000000 ∧ a.natAbs < 2 ^ 64 then .ok (.int (a * 2 ^ b.toNat)) else .bad
def iShr (a b:Int):Res D:=if 0 ≤ b then .ok (.int (a / 2 ^ b.toNat)) else .bad
def iLt (a b:Int):Res D:=.ok (.bl (decide (a < b)))
def iLe (a b:Int):Res D:=.ok (.bl (decide (a ≤ b)))
def iGt (a b:Int):Res D:=.ok (.bl (decide (b < a)))
def iGe (a b:Int):Res D:=.ok (.bl (decide (b ≤ a)))
abbrev dSub:=ii iSub
abbrev dMul:=ii iMul
abbrev dMod:=ii iMod
abbrev dDiv:=ii iDiv
abbrev dPow:=ii iPow
abbrev dShl:=ii iShl
abbrev dShr:=ii iShr
abbrev dLt:=ii iLt
abbrev dLe:=ii iLe
abbrev dGt:=ii iGt
abbrev dGe:=ii iGe
def dNeg:D → Res D
 | .int a=>.ok (.int (-a))
 | _=>.bad
mutual
def eqD:D → D → Bool
 | .non,.non=>true
 | .bl a,.bl b=>a == b
 | .bl a,.int j=>(if a then 1 else 0) == j
 | .int i,.bl b=>i == (if b then 1 else 0)
 | .int i,.int j=>i == j
 | .str x,.str y=>x == y
 | .lst xs,.lst ys=>eqDs xs ys
 | .tup xs,.tup ys=>eqDs xs ys
 | _,_=>false
def eqDs:List D → List D → Bool
 | [],[]=>true
 | x :: xs,y :: ys=>eqD x y && eqDs xs ys
 | _,_=>false
end
mutual
def plain:Nat → D → Bool
 | _,.non=>true
 | _,.bl _=>true
 | _,.int _=>true
 | _,.str x=>x.cps.all (· < 0x110000)
 | k + 1,.tup xs=>plains k xs
 | k + 1,.lst xs=>plains k xs
 | _,_=>false
def plains:Nat → List D → Bool
 | _,[]=>true
 | k,x :: xs=>plain k x && plains k xs
end
def dEq (x y:D):Res D:=if plain 50 x && plain 50 y then .ok (.bl (eqD x y)) else .bad
def dNe (x y:D):Res D:=if plain 50 x && plain 50 y then .ok (.bl (!eqD x y)) else .bad
def inD (x:D) (ys:List D):Bool:=ys.any fun y=>eqD y x
def seqD:D → Res (List D)
 | .lst ys=>.ok ys
 | .tup ys=>.ok ys
 | _=>.bad
def dNin (x y:D):Res D:=(seqD y).bind fun ys=>if plain 50 x && plains 50 ys then .ok (.bl (!inD x ys)) else .bad
def isNon:D → Bool
 | .non=>true
 | _=>false
def dIsN (x:D):Res D:=.ok (.bl (isNon x))
def dNotN (x:D):Res D:=.ok (.bl (!isNon x))
def at_ {α:Type} (xs:List α) (i:Int):Option α:=if 0 ≤ i then xs[i.toNat]? else if -(xs.length:Int) ≤ i then xs[(i + xs.length).toNat]? else none
def ofO {α:Type}:Option α → Res α
 | some a=>.ok a
 | none=>.bad
def dIx:D → D → Res D
 | .lst xs,.int i=>ofO (at_ xs i)
 | .tup xs,.int i=>ofO (at_ xs i)
 | _,_=>.bad
def cutAt (n d:Nat):Option Int → Nat
 | none=>d
 | some i=>if i < 0 then (i + n).toNat else min i.toNat n
def cutL (xs:List D) (lo hi:Option Int):List D:=(xs.drop (cutAt xs.length 0 lo)).take (cutAt xs.length xs.length hi - cutAt xs.length 0 lo)
def dCut (x:D) (lo hi:Option Int):Res D:=match x with
 | .lst xs=>.ok (.lst (cutL xs lo hi))
 | .tup xs=>.ok (.tup (cutL xs lo hi))
 | _=>.bad
def pno:Ev → Res (Option Int):=fun _=>.ok none
def optI:D → Res (Option Int)
 | .int i=>.ok (some i)
 | _=>.bad
def pso (a:ME):Ev → Res (Option Int):=fun ρ=>(a ρ).bind optI
def cut (a:ME) (lo hi:Ev → Res (Option Int)):ME:=fun ρ=>(a ρ).bind fun x=>(lo ρ).bind fun l=>(hi ρ).bind fun h=>dCut x l h
def dRev:D → Res D
 | .lst xs=>.ok (.lst xs.reverse)
 | _=>.bad
def bLen:List D → Res D
 | [.lst xs]=>.ok (.int xs.length)
 | [.tup xs]=>.ok (.int xs.length)
 | _=>.bad
def bAbs:List D → Res D
 | [.int i]=>.ok (.int (if i < 0 then -i else i))
 | _=>.bad
def bTup:List D → Res D
 | [.lst xs]=>.ok (.tup xs)
 | [.tup xs]=>.ok (.tup xs)
 | _=>.bad
def bLst:List D → Res D
 | [.lst xs]=>.ok (.lst xs)
 | [.tup xs]=>.ok (.lst xs)
 | _=>.bad
def tyName:D → Option String
 | .non=>some "NoneType"
 | .bl _=>some "bool"
 | .int _=>some "int"
 | .str _=>some "str"
 | .tup _=>some "tuple"
 | .lst _=>some "list"
 | _=>none
def isTy (t n:String):Bool:=t == n || (t == "bool" && n == "int")
def tyList:List String:=["int", "bool", "str", "tuple", "list", "dict"]
def bIsi:List D → Res D
 | [x,.ty n]=>if tyList.contains n = true then (ofO (tyName x)).bind fun t=>.ok (.bl (isTy t n)) else .bad
 | _=>.bad
def bools:List D → Res (List Bool)
 | []=>.ok []
 | d :: r=>match d with
  | .bl b=>(bools r).bind fun bs=>.ok (b :: bs)
  | _=>.bad
def bAll:List D → Res D
 | [d]=>match d with
  | .lst xs=>(bools xs).bind fun bs=>.ok (.bl (bs.all id))
  | _=>.bad
 | _=>.bad
abbrev MI:=Ev → Res (List D)
def items:D → Res (List D)
 | .lst xs=>.ok xs
 | .tup xs=>.ok xs
 | _=>.bad
def iv (a:ME):MI:=fun ρ=>(a ρ).bind items
def numbered:Nat → List D → List D
 | _,[]=>[]
 | k,x :: xs=>.tup [.int k,x] :: numbered (k + 1) xs
def enum1:List D → Res (List D)
 | [x]=>match x with
  | .lst xs=>.ok (numbered 0 xs)
  | _=>.bad
 | _=>.bad
def iEnumerate (a:MA):MI:=fun ρ=>(a ρ).bind enum1
def rangeD (lo:Int) (n:Nat):List D:=(List.range n).map fun (k:Nat)=>D.int (lo + (k:Int))
def rng1:List D → Res (List D)
 | [.int j]=>if -1000000000 ≤ j ∧ j ≤ 1000000000 then .ok (rangeD 0 j.toNat) else .bad
 | _=>.bad
def r1 (a:MA):MI:=fun ρ=>(a ρ).bind rng1
abbrev MG:=D → Ev → Res Ev
abbrev MGs:=List D → Ev → Res Ev
def gN (i:Nat):MG:=fun d ρ=>.ok (ρ.set i (.im d))
def gs0:MGs:=fun ds ρ=>match ds with
 | []=>.ok ρ
 | _=>.bad
def gs1 (g:MG) (r:MGs):MGs:=fun ds ρ=>match ds with
 | d :: ds=>(g d ρ).bind fun ρ'=>r ds ρ'
 | []=>.bad
def gU (n:Nat) (g:MGs):MG:=fun d ρ=>(items d).bind fun xs=>if xs.length = n then g xs ρ else .bad
def imOf:Option Cl → Cl
 | some (.im d)=>.im d
 | _=>.no
def capD (ρ:Ev):List Nat → Ev
 | []=>[]
 | j :: r=>imOf ρ[j]? :: capD ρ r
def noA:Nat → Ev → Ev
 | 0,e=>e
 | k + 1,e=>.no :: noA k e
def compGo (g:MG) (t:MB) (e:ME) (ρ0:Ev):List D → Res (List D)
 | []=>.ok []
 | x :: r=>(g x ρ0).bind fun ρ1=>(t ρ1).bind fun b=>if b = true then (e ρ1).bind fun y=>(compGo g t e ρ0 r).bind fun ys=>.ok (y :: ys) else compGo g t e ρ0 r
def yes:MB:=fun _=>.ok true
def noEx {α:Type}:Res α → Res α
 | .ex _=>.bad
 | r=>r
def comp (it:MI) (own:Nat) (cap:List Nat) (g:MG) (t:MB) (e:ME):ME:=fun ρ=>(it ρ).bind fun xs =>
 if xs.length ≤ LIM then (noEx (compGo g t e (noA own (capD ρ cap)) xs)).bind fun ys=>.ok (.lst ys) else .bad
inductive Fl where
 | nx (ρ:Ev) | rt (d:D) | bk (ρ:Ev) | ct (ρ:Ev)
abbrev MS:=Ev → Res Fl
def nop:MS:=fun ρ=>.ok (.nx ρ)
def goOn (b:MS):Fl → Res Fl
 | .nx ρ=>b ρ
 | f=>.ok f
def sq (a b:MS):MS:=fun ρ=>(a ρ).bind (goOn b)
def st (i:Nat) (e:ME):MS:=fun ρ=>(e ρ).bind fun d=>.ok (.nx (ρ.set i (.im d)))
def lstO:D → Res (List D)
 | .lst xs=>.ok xs
 | _=>.bad
def stO (i:Nat) (e:ME):MS:=fun ρ=>(e ρ).bind fun d=>(lstO d).bind fun xs=>.ok (.nx (ρ.set i (.ow xs)))
def getO:Option Cl → Res (List D)
 | some (.ow xs)=>.ok xs
 | _=>.bad
def frz (i:Nat) (m:MS):MS:=fun ρ=>(getO ρ[i]?).bind fun xs=>m (ρ.set i (.im (.lst xs)))
def app (i:Nat) (e:ME):MS:=fun ρ=>(getO ρ[i]?).bind fun xs=>(e ρ).bind fun d=>if xs.length < LIM then .ok (.nx (ρ.set i (.ow (xs ++ [d])))) else .bad
def asg (g:MG) (e:ME):MS:=fun ρ=>(e ρ).bind fun d=>(g d ρ).bind fun ρ'=>.ok (.nx ρ')
def drp (e:ME):MS:=fun ρ=>(e ρ).bind fun _=>.ok (.nx ρ)
def ret (e:ME):MS:=fun ρ=>(e ρ).bind fun d=>.ok (.rt d)
def ifs (t:MB) (a b:MS):MS:=fun ρ=>(t ρ).bind fun x=>if x = true then a ρ else b ρ
def cnt:MS:=fun ρ=>.ok (.ct ρ)
def rse (c:Str) (a:MA):MS:=fun ρ=>(a ρ).bind fun _=>.ex c
def scalD:D → Res D
 | .non=>.ok .non
 | .bl b=>.ok (.bl b)
 | .int i=>.ok (.int i)
 | .str x=>.ok (.str x)
 | _=>.bad
def pk (i:Nat) (m:ME):ME:=fun ρ=>(getO ρ[i]?).bind fun xs=>(m (ρ.set i (.im (.lst xs)))).bind scalD
def pkB (i:Nat) (m:MB):MB:=fun ρ=>(getO ρ[i]?).bind fun xs=>m (ρ.set i (.im (.lst xs)))
def turn (k:MS):Fl → Res Fl
 | .nx ρ=>k ρ
 | .ct ρ=>k ρ
 | .bk ρ=>.ok (.nx ρ)
 | .rt d=>.ok (.rt d)
def forGo (g:MG) (b:MS):List D → MS
 | [],ρ=>.ok (.nx ρ)
 | x :: r,ρ=>(g x ρ).bind fun ρ1=>(b ρ1).bind (turn (forGo g b r))
def for_ (it:MI) (g:MG) (b:MS):MS:=fun ρ=>(it ρ).bind fun xs=>forGo g b xs ρ
def whGo (t:MB) (b:MS):Nat → MS
 | 0,_=>.bad
 | n + 1,ρ=>(t ρ).bind fun x=>if x = true then (b ρ).bind (turn (whGo t b n)) else .ok (.nx ρ)
def absC:Cl → Nat
 | .im (.int i)=>i.natAbs
 | _=>0
def fuel (ρ:Ev):Nat:=(ρ.map absC).sum + 1
def whl (n:Ev → Nat) (t:MB) (b:MS):MS:=fun ρ=>whGo t b (n ρ) ρ
def evF:List D → Nat → Ev
 | [],k=>noA k []
 | d :: r,k=>.im d :: evF r (k - 1)
def ev0 (n:Nat) (ds:List D):Ev:=evF ds n
theorem noA_eq:∀ (k:Nat) (e:Ev),noA k e = List.replicate k .no ++ e
 | 0,_=>rfl
 | k + 1,e=>by rw [noA,noA_eq k e,List.replicate_succ,List.cons_append]
theorem capD_map (ρ:Ev):∀ cap:List Nat,capD ρ cap = cap.map fun j=>imOf ρ[j]?
 | []=>rfl
 | j :: r=>by rw [capD,capD_map ρ r,List.map_cons]
theorem ev0_eq:∀ (ds:List D) (n:Nat),ev0 n ds = ds.map .im ++ List.replicate (n - ds.length) .no
 | [],n=>by show noA n [] = _;rw [noA_eq];simp
 | d :: r,n=>by
  have ih:=ev0_eq r (n - 1)
  show .im d :: ev0 (n - 1) r = _
  rw [ih,List.map_cons,List.cons_append,List.length_cons,Nat.sub_sub,Nat.add_comm 1]
def endOf:Fl → Res D
 | .rt d=>.ok d
 | .nx _=>.ok .non
 | _=>.bad
def fn (n:Nat) (b:MS) (ds:List D):Res D:=(b (ev0 n ds)).bind endOf
end Dl
namespace L2.Ds
open PySem PySem.Spec PyProof.Rows Dl
mutual
inductive Rp (K:PySem.W.Frag) (mg:Str → Option Value) (H:Hp):V → D → Prop
 | non:Rp K mg H .non .non
 | bl (b:Bool):Rp K mg H (.bl b) (.bl b)
 | int (i:Int):Rp K mg H (.int i) (.int i)
 | str (x:Str):Rp K mg H (.str x) (.str x)
 | ty (n:String):Rp K mg H (.ty n) (.ty n)
 | cls {c:Str} {C:Addr} (h:mg c = some (.ref C)):Rp K mg H (.ref C) (.cls c)
 | tup {a:Addr} {xs:List V} {ds:List D} (h:SqT K H a xs) (r:Rps K mg H xs ds):Rp K mg H (.ref a) (.tup ds)
 | lst {a:Addr} {xs:List V} {ds:List D} (h:SqL K H a xs) (r:Rps K mg H xs ds):Rp K mg H (.ref a) (.lst ds)
 | exc {c:Str} {C a:Addr} (m:mg c = some (.ref C)) (h:H a = some (exO a (.ref C))):Rp K mg H (.ref a) (.exc c)
 | ins {c:Str} {C a dx:Addr} {fs:List (Str × V)} {xs:List V} {vs:List D} (m:mg c = some (.ref C)) (h:H a = some (.ins C dx fs)) (o:H dx = some (.own a)) (e:fs.map (·.2) = xs) (r:Rps K mg H xs vs):Rp K mg H (.ref a) (.ins c (fs.map (·.1)) vs)
inductive Rps (K:PySem.W.Frag) (mg:Str → Option Value) (H:Hp):List V → List D → Prop
 | nil:Rps K mg H [] []
 | cons {x:V} {xs:List V} {d:D} {ds:List D} (h:Rp K mg H x d) (r:Rps K mg H xs ds):Rps K mg H (x :: xs) (d :: ds)
end
section
variable {K:PySem.W.Frag} {mg:Str → Option Value} {H H':Hp}
theorem seqT_same {a:Addr} {xs:List V} (e:Same H H') (h:SqT K H a xs):SqT K H' a xs:=by
 rcases h with (h | ⟨o,h⟩) | h
 ·exact .inl (.inl (e _ _ h))
 ·exact .inl (.inr ⟨o,e _ _ h⟩)
 ·exact .inr h
mutual
theorem Rp.same (e:Same H H'):∀ {x:V} {d:D},Rp K mg H x d → Rp K mg H' x d
 | _,_,.non=>.non
 | _,_,.bl b=>.bl b
 | _,_,.int i=>.int i
 | _,_,.str x=>.str x
 | _,_,.ty n=>.ty n
 | _,_,.cls h=>.cls h
 | _,_,.tup h r=>.tup (seqT_same e h) (Rps.same e r)
 | _,_,.lst h r=>.lst (e.seq h) (Rps.same e r)
 | _,_,.exc m h=>.exc m (e _ _ h)
 | _,_,.ins m h o q r=>.ins m (e _ _ h) (e _ _ o) q (Rps.same e r)
theorem Rps.same (e:Same H H'):∀ {xs:List V} {ds:List D},Rps K mg H xs ds → Rps K mg H' xs ds
 | _,_,.nil=>.nil
 | _,_,.cons h r=>.cons (Rp.same e h) (Rps.same e r)
end
theorem Rps.length:∀ {xs:List V} {ds:List D},Rps K mg H xs ds → xs.length = ds.length
 | _,_,.nil=>rfl
 | _,_,.cons _ r=>congrArg (· + 1) (Rps.length r)
theorem Rps.get:∀ {xs:List V} {ds:List D} {i:Nat} {d:D},Rps K mg H xs ds → ds[i]? = some d → ∃ x,xs[i]? = some x ∧ Rp K mg H x d
 | _,_,_,_,.nil,e=>by simp at e
 | _,_,0,_,.cons h _,e=>by simp at e;subst e;exact ⟨_,rfl,h⟩
 | _,_,i + 1,_,.cons _ r,e=>by
  obtain ⟨x,h1,h2⟩:=Rps.get (i:=i) r (by simpa using e)
  exact ⟨x,by simpa using h1,h2⟩
theorem Rps.app {ys:List V} {es:List D} (q:Rps K mg H ys es):∀ {xs:List V} {ds:List D},Rps K mg H xs ds → Rps K mg H (xs ++ ys) (ds ++ es)
 | _,_,.nil=>q
 | _,_,.cons h r=>.cons h (Rps.app q r)
theorem Rps.rev:∀ {xs:List V} {ds:List D},Rps K mg H xs ds → Rps K mg H xs.reverse ds.reverse
 | _,_,.nil=>.nil
 | _,_,.cons h r=>by
  rw [List.reverse_cons,List.reverse_cons]
  exact Rps.app (.cons h .nil) (Rps.rev r)
theorem Rps.drop:∀ {xs:List V} {ds:List D} (n:Nat),Rps K mg H xs ds → Rps K mg H (xs.drop n) (ds.drop n)
 | _,_,0,r=>r
 | _,_,_ + 1,.nil=>.nil
 | _,_,n + 1,.cons _ r=>Rps.drop n r
theorem Rps.take:∀ {xs:List V} {ds:List D} (n:Nat),Rps K mg H xs ds → Rps K mg H (xs.take n) (ds.take n)
 | _,_,0,_=>.nil
 | _,_,_ + 1,.nil=>.nil
 | _,_,n + 1,.cons h r=>.cons h (Rps.take n r)
theorem Rps.one:∀ {xs:List V} {d:D},Rps K mg H xs [d] → ∃ x,xs = [x] ∧ Rp K mg H x d
 | _,_,.cons h .nil=>⟨_,rfl,h⟩
theorem Rps.two:∀ {xs:List V} {d e:D},Rps K mg H xs [d,e] → ∃ x y,xs = [x,y] ∧ Rp K mg H x d ∧ Rp K mg H y e
 | _,_,_,.cons h (.cons h' .nil)=>⟨_,_,rfl,h,h'⟩
end
structure Gr (F H F' H':Hp):Prop where
 f:Same F F'
 s:Same F' H'
 o:∀ a o,F a = none → H a = some o → F' a = none ∧ H' a = some o
theorem Gr.refl {F H:Hp} (s:Same F H):Gr F H F H:=⟨Same.refl _,s,fun _ _ h1 h2=>⟨h1,h2⟩⟩
theorem Gr.trans {F H F1 H1 F2 H2:Hp} (g:Gr F H F1 H1) (h:Gr F1 H1 F2 H2):Gr F H F2 H2:=⟨g.f.trans h.f,h.s,fun a o h1 h2=>let ⟨q1,q2⟩:=g.o a o h1 h2;h.o a o q1 q2⟩
theorem same_upd {F H:Hp} {p:Addr} {o:HO} (s:Same F H):Same (upd F p o) (upd H p o):=fun b u e=>by
 by_cases hb:b = p
 ·subst hb;rw [upd_same] at e ⊢;exact e
 ·rw [upd_ne hb] at e ⊢;exact s b u e
theorem Gr.new {F H:Hp} {p:Addr} (s:Same F H) (h:H p = none) (o:HO):Gr F H (upd F p o) (upd H p o) :=
 ⟨same_new (s.free h) o,same_upd s,fun a u h1 h2=>by
  have ne:a ≠ p:=ne_of_none h2 h
  rw [upd_ne ne,upd_ne ne];exact ⟨h1,h2⟩⟩
structure Rep (K:PySem.W.Frag) (mg:Str → Option Value) (F0 H0 F H:Hp) (σ:St) (ρ:Ev):Prop where
 g:Gr F0 H0 F H
 len:σ.length = ρ.length
 im:∀ (i:Nat) (d:D),ρ[i]? = some (.im d) → ∃ x,σ[i]? = some (some x) ∧ Rp K mg F x d
 ow:∀ (i:Nat) (ds:List D),ρ[i]? = some (.ow ds) → ∃ a xs,σ[i]? = some (some (.ref a)) ∧ H0 a = none ∧ F a = none ∧ H a = some (.lst xs) ∧ Rps K mg F xs ds
 ne:∀ (i j:Nat) (ds es:List D) (a:Addr),ρ[i]? = some (.ow ds) → ρ[j]? = some (.ow es) → σ[i]? = some (some (.ref a)) → σ[j]? = some (some (.ref a)) → i = j
section
variable {K:PySem.W.Frag} {mg:Str → Option Value} {F0 H0 F H F' H':Hp} {σ:St} {ρ:Ev}
theorem Rep.gr (r:Rep K mg F0 H0 F H σ ρ) (g:Gr F H F' H'):Rep K mg F0 H0 F' H' σ ρ:=by
 refine ⟨r.g.trans g,r.len,fun i d e=>?_,fun i ds e=>?_,r.ne⟩
 ·obtain ⟨x,h1,h2⟩:=r.im i d e
  exact ⟨x,h1,h2.same g.f⟩
 ·obtain ⟨a,xs,h1,h2,h3,h4,h5⟩:=r.ow i ds e
  obtain ⟨q1,q2⟩:=g.o a _ h3 h4
  exact ⟨a,xs,h1,h2,q1,q2,h5.same g.f⟩
theorem set_get {α:Type} {l:List α} {i j:Nat} {x y:α} (h:(l.set i x)[j]? = some y):(i = j ∧ y = x ∧ i < l.length) ∨ (i ≠ j ∧ l[j]? = some y):=by
 rw [List.getElem?_set] at h
 by_cases e:i = j
 ·rw [if_pos e] at h
  split at h
  ·exact .inl ⟨e,(Option.some.inj h).symm,by assumption⟩
  ·cases h
 ·rw [if_neg e] at h;exact .inr ⟨e,h⟩
theorem set_at {α:Type} {l:List α} {i:Nat} {x:α} (h:i < l.length):(l.set i x)[i]? = some x:=by
 rw [List.getElem?_set,if_pos rfl,if_pos h]
theorem set_off {α:Type} {l:List α} {i j:Nat} {x:α} (h:i ≠ j):(l.set i x)[j]? = l[j]?:=by
 rw [List.getElem?_set,if_neg h]
theorem Rep.set {x:V} {d:D} (r:Rep K mg F0 H0 F H σ ρ) (i:Nat) (h:Rp K mg F x d):Rep K mg F0 H0 F H (σ.set i (some x)) (ρ.set i (.im d)):=by
 refine ⟨r.g,by rw [List.length_set,List.length_set];exact r.len,fun j e q=>?_,fun j ds q=>?_,fun j k ds es a q1 q2 q3 q4=>?_⟩
 ·rcases set_get q with ⟨rfl,z,l⟩ | ⟨hij,q⟩
  ·cases z
   exact ⟨x,set_at (by rw [r.len];exact l),h⟩
  ·rw [set_off hij];exact r.im j e q
 ·rcases set_get q with ⟨_,z,_⟩ | ⟨hij,q⟩
  ·cases z
  ·rw [set_off hij];exact r.ow j ds q
 ·rcases set_get q1 with ⟨_,z,_⟩ | ⟨h1,q1⟩
  ·cases z
  ·rcases set_get q2 with ⟨_,z,_⟩ | ⟨h2,q2⟩
   ·cases z
   ·rw [set_off h1] at q3
    rw [set_off h2] at q4
    exact r.ne j k ds es a q1 q2 q3 q4
theorem Rep.own {a:Addr} {xs:List V} {ds:List D} (r:Rep K mg F0 H0 F H σ ρ) (i:Nat) (hn:H a = none) (h:Rps K mg F xs ds):Rep K mg F0 H0 F (upd H a (.lst xs)) (σ.set i (some (.ref a))) (ρ.set i (.ow ds)):=by
 have fa:F a = none:=r.g.s.free hn
 have h0a:H0 a = none:=by
  cases q:H0 a with
  | none=>rfl
  | some o =>
   cases q2:F0 a with
   | none=>rw [(r.g.o a o q2 q).2] at hn;cases hn
   | some u=>rw [r.g.f a u q2] at fa;cases fa
 have nea:∀ {j:Nat} {es:List D} {b:Addr},ρ[j]? = some (.ow es) → σ[j]? = some (some (.ref b)) → b ≠ a:=fun {j es b} q1 q2=>by
  obtain ⟨b',xs',h1,_,_,h4,_⟩:=r.ow j es q1
  rw [q2] at h1;cases h1
  exact ne_of_none h4 hn
 refine ⟨⟨r.g.f,fun b o e=>?_,fun b o e1 e2=>?_⟩,by rw [List.length_set,List.length_set];exact r.len,fun j e q=>?_,fun j es q=>?_,fun j k es ts b q1 q2 q3 q4=>?_⟩
 ·rw [upd_ne (ne_of_none e fa)];exact r.g.s b o e
 ·rw [upd_ne (ne_of_none e2 h0a)];exact r.g.o b o e1 e2
 ·rcases set_get q with ⟨_,z,_⟩ | ⟨hij,q⟩
  ·cases z
  ·rw [set_off hij];exact r.im j e q
 ·rcases set_get q with ⟨rfl,z,l⟩ | ⟨hij,q⟩
  ·cases z
   exact ⟨a,xs,set_at (by rw [r.len];exact l),h0a,fa,upd_same,h⟩
  ·rw [set_off hij]
   obtain ⟨b,ys,h1,h2,h3,h4,h5⟩:=r.ow j es q
   exact ⟨b,ys,h1,h2,h3,by rw [upd_ne (ne_of_none h4 hn)];exact h4,h5⟩
 ·rcases set_get q1 with ⟨rfl,_,l1⟩ | ⟨h1,q1⟩
  ·rcases set_get q2 with ⟨rfl,_,_⟩ | ⟨h2,q2⟩
   ·rfl
   ·rw [set_at (by rw [r.len];exact l1)] at q3
    rw [set_off h2] at q4
    cases q3
    exact absurd rfl (nea q2 q4)
  ·rcases set_get q2 with ⟨rfl,_,l2⟩ | ⟨h2,q2⟩
   ·rw [set_at (by rw [r.len];exact l2)] at q4
    rw [set_off h1] at q3
    cases q4
    exact absurd rfl (nea q1 q3)
   ·rw [set_off h1] at q3
    rw [set_off h2] at q4
    exact r.ne j k es ts b q1 q2 q3 q4
theorem Rep.app {i:Nat} {x:V} {d:D} {ds:List D} {a:Addr} {xs:List V} (r:Rep K mg F0 H0 F H σ ρ) (e:ρ[i]? = some (.ow ds)) (e2:σ[i]? = some (some (.ref a))) (e3:H a = some (.lst xs)) (e4:H0 a = none) (e5:F a = none) (hr:Rps K mg F xs ds) (h:Rp K mg F x d) :
  Rep K mg F0 H0 F (upd H a (.lst (xs ++ [x]))) σ (ρ.set i (.ow (ds ++ [d]))):=by
 have li:i < ρ.length:=(List.getElem?_eq_some_iff.mp e).1
 refine ⟨⟨r.g.f,fun b o q=>?_,fun b o q1 q2=>?_⟩,by rw [List.length_set];exact r.len,fun j u q=>?_,fun j es q=>?_,fun j k es ts b q1 q2 q3 q4=>?_⟩
 ·rw [upd_ne (ne_of_none q e5)];exact r.g.s b o q
 ·rw [upd_ne (ne_of_none q2 e4)];exact r.g.o b o q1 q2
 ·rcases set_get q with ⟨_,z,_⟩ | ⟨_,q⟩
  ·cases z
  ·exact r.im j u q
 ·rcases set_get q with ⟨rfl,z,l⟩ | ⟨hij,q⟩
  ·cases z
   exact ⟨a,_,e2,e4,e5,upd_same,Rps.app (.cons h .nil) hr⟩
  ·obtain ⟨b,ys,h1,h2,h3,h4,h5⟩:=r.ow j es q
   have nb:b ≠ a:=by
    rintro rfl
    exact hij (r.ne i j ds es b e q e2 h1)
   exact ⟨b,ys,h1,h2,h3,by rw [upd_ne nb];exact h4,h5⟩
 ·have o1:∃ es',ρ[j]? = some (.ow es'):=by
   rcases set_get q1 with ⟨rfl,_,_⟩ | ⟨_,q⟩
   ·exact ⟨_,e⟩
   ·exact ⟨_,q⟩
  have o2:∃ es',ρ[k]? = some (.ow es'):=by
   rcases set_get q2 with ⟨rfl,_,_⟩ | ⟨_,q⟩
   ·exact ⟨_,e⟩
   ·exact ⟨_,q⟩
  obtain ⟨_,o1⟩:=o1
  obtain ⟨_,o2⟩:=o2
  exact r.ne j k _ _ b o1 o2 q3 q4
theorem Rep.frz {i:Nat} {ds:List D} (r:Rep K mg F0 H0 F H σ ρ) (e:ρ[i]? = some (.ow ds)):∃ F',Same F F' ∧ Rep K mg F0 H0 F' H σ (ρ.set i (.im (.lst ds))):=by
 obtain ⟨a,xs,e2,e4,e5,e3,hr⟩:=r.ow i ds e
 have sF:Same F (upd F a (.lst xs)):=same_new e5 _
 refine ⟨upd F a (.lst xs),sF,⟨r.g.f.trans sF,fun b o q=>?_,fun b o q1 q2=>?_⟩,by rw [List.length_set];exact r.len,fun j u q=>?_,fun j es q=>?_,fun j k es ts b q1 q2 q3 q4=>?_⟩
 ·by_cases hb:b = a
  ·subst hb;rw [upd_same] at q;cases q;exact e3
  ·rw [upd_ne hb] at q;exact r.g.s b o q
 ·rw [upd_ne (ne_of_none q2 e4)];exact r.g.o b o q1 q2
 ·rcases set_get q with ⟨rfl,z,_⟩ | ⟨_,q⟩
  ·cases z
   exact ⟨.ref a,e2,.lst (SqL.of upd_same) (hr.same sF)⟩
  ·obtain ⟨x,h1,h2⟩:=r.im j u q
   exact ⟨x,h1,h2.same sF⟩
 ·rcases set_get q with ⟨_,z,_⟩ | ⟨hij,q⟩
  ·cases z
  ·obtain ⟨b,ys,h1,h2,h3,h4,h5⟩:=r.ow j es q
   have nb:b ≠ a:=by
    rintro rfl
    exact hij (r.ne i j ds es b e q e2 h1)
   exact ⟨b,ys,h1,h2,by rw [upd_ne nb];exact h3,h4,h5.same sF⟩
 ·rcases set_get q1 with ⟨_,z,_⟩ | ⟨_,q1⟩
  ·cases z
  ·rcases set_get q2 with ⟨_,z,_⟩ | ⟨_,q2⟩
   ·cases z
   ·exact r.ne j k es ts b q1 q2 q3 q4
end
def Ans {α β:Type} (mg:Str → Option Value) (E:XK) (R:Hp → β → α → Prop) (F H:Hp) (r:Res α) (w:(β → Hp → Prop) → Prop):Prop :=
 match r with
 | .ok a=>∀ Q:β → Hp → Prop,(∀ F' H' b,Gr F H F' H' → R F' b a → Q b H') → w Q
 | .ex c=>∀ Q:β → Hp → Prop,(∀ F' H' C,Gr F H F' H' → mg c = some (.ref C) → E (.ref C) none H') → w Q
 | .bad=>True
section
variable {α β γ δ:Type} {mg:Str → Option Value} {E:XK} {R:Hp → β → α → Prop} {R':Hp → δ → γ → Prop} {F H:Hp}
theorem Ans.ret {a:α} {b:β} {w:(β → Hp → Prop) → Prop} (s:Same F H) (r:R F b a) (h:∀ Q:β → Hp → Prop,Q b H → w Q):Ans mg E R F H (.ok a) w:=fun Q q=>h Q (q F H b (.refl s) r)
theorem Ans.bindE {r:Res α} {w:(β → Hp → Prop) → Prop} {k:α → Res γ} {w':β → Hp → (δ → Hp → Prop) → Prop} (h1:Ans mg E R F H r w) (h2:∀ a,r = .ok a → ∀ F1 H1 b,Gr F H F1 H1 → R F1 b a → Ans mg E R' F1 H1 (k a) (w' b H1)) :
  Ans mg E R' F H (r.bind k) (fun Q=>w fun b H1=>w' b H1 Q):=by
 cases r with
 | ok a =>
  show Ans mg E R' F H (k a) _
  have h2':=h2 a rfl
  generalize k a = r2 at h2'
  cases r2 with
  | ok d=>exact fun Q q=>h1 _ fun F1 H1 b g rb=>h2' F1 H1 b g rb Q fun F2 H2 e g2 re=>q F2 H2 e (g.trans g2) re
  | ex c=>exact fun Q q=>h1 _ fun F1 H1 b g rb=>h2' F1 H1 b g rb Q fun F2 H2 C g2 hc=>q F2 H2 C (g.trans g2) hc
  | bad=>trivial
 | ex c=>exact fun Q q=>h1 _ q
 | bad=>trivial
theorem Ans.bind {r:Res α} {w:(β → Hp → Prop) → Prop} {k:α → Res γ} {w':β → Hp → (δ → Hp → Prop) → Prop} (h1:Ans mg E R F H r w) (h2:∀ F1 H1 b a,Gr F H F1 H1 → R F1 b a → Ans mg E R' F1 H1 (k a) (w' b H1)) :
  Ans mg E R' F H (r.bind k) (fun Q=>w fun b H1=>w' b H1 Q):=h1.bindE fun a _ F1 H1 b g q=>h2 F1 H1 b a g q
end
end L2.Ds
namespace L2.Ds
open PySem PySem.Spec PyProof.Rows Dl
def AnsS (K:PySem.W.Frag) (mg:Str → Option Value) (E:XK) (F0 H0 F:Hp) (r:Res Fl) (w:Ends → Prop):Prop :=
 match r with
 | .ok (.nx ρ)=>∀ D:Ends,(∀ F' H' σ',Same F F' → Rep K mg F0 H0 F' H' σ' ρ → D.nx σ' H') → w D
 | .ok (.bk ρ)=>∀ D:Ends,(∀ F' H' σ',Same F F' → Rep K mg F0 H0 F' H' σ' ρ → D.bk σ' H') → w D
 | .ok (.ct ρ)=>∀ D:Ends,(∀ F' H' σ',Same F F' → Rep K mg F0 H0 F' H' σ' ρ → D.ct σ' H') → w D
 | .ok (.rt d)=>∀ D:Ends,(∀ F' H' x,Gr F0 H0 F' H' → Rp K mg F' x d → D.rt x H') → w D
 | .ex c=>∀ D:Ends,(∀ F' H' C,Gr F0 H0 F' H' → mg c = some (.ref C) → E (.ref C) none H') → w D
 | .bad=>True
abbrev RB:Hp → Bool → Bool → Prop:=fun _ b b'=>b = b'
abbrev RO:Hp → Option Int → Option Int → Prop:=fun _ b b'=>b = b'
def SE (K:PySem.W.Frag) (mg:Str → Option Value) (E:XK) (t:TE) (m:ME):Prop:=∀ F0 H0 F H σ ρ,Rep K mg F0 H0 F H σ ρ → Ans mg E (Rp K mg) F H (m ρ) (t σ H)
def STt (K:PySem.W.Frag) (mg:Str → Option Value) (E:XK) (t:TT) (m:MB):Prop:=∀ F0 H0 F H σ ρ,Rep K mg F0 H0 F H σ ρ → Ans mg E RB F H (m ρ) (t σ H)
def SA (K:PySem.W.Frag) (mg:Str → Option Value) (E:XK) (t:TA) (m:MA):Prop:=∀ F0 H0 F H σ ρ,Rep K mg F0 H0 F H σ ρ → Ans mg E (Rps K mg) F H (m ρ) (t σ H)
def SO (K:PySem.W.Frag) (mg:Str → Option Value) (E:XK) (t:TO) (m:Ev → Res (Option Int)):Prop:=∀ F0 H0 F H σ ρ,Rep K mg F0 H0 F H σ ρ → Ans mg E RO F H (m ρ) (t σ H)
def SS (K:PySem.W.Frag) (mg:Str → Option Value) (E:XK) (t:TS) (m:MS):Prop:=∀ F0 H0 F H σ ρ,Rep K mg F0 H0 F H σ ρ → AnsS K mg E F0 H0 F (m ρ) (fun D=>t D σ H)
def AnsG (K:PySem.W.Frag) (mg:Str → Option Value) (F0 H0 F:Hp) (n:Nat) (σ:St) (r:Res Ev) (w:(St → Hp → Prop) → Prop):Prop :=
 match r with
 | .ok ρ'=>∀ Q:St → Hp → Prop,(∀ F' H' σ',Same F F' → Rep K mg F0 H0 F' H' σ' ρ' → σ'.drop n = σ.drop n → Q σ' H') → w Q
 | _=>True
def SG (K:PySem.W.Frag) (mg:Str → Option Value) (n:Nat) (t:TG) (g:MG):Prop:=∀ F0 H0 F H σ ρ x d,Rep K mg F0 H0 F H σ ρ → Rp K mg F x d → AnsG K mg F0 H0 F n σ (g d ρ) (t x σ H)
def SGs (K:PySem.W.Frag) (mg:Str → Option Value) (n:Nat) (t:TGs) (g:MGs):Prop:=∀ F0 H0 F H σ ρ xs ds,Rep K mg F0 H0 F H σ ρ → Rps K mg F xs ds → AnsG K mg F0 H0 F n σ (g ds ρ) (t xs σ H)
def ItOk (K:PySem.W.Frag) (mg:Str → Option Value) (F:Hp) (J:It) (ds:List D):Prop:=∀ F' H',Same F F' → Same F' H' → ∀ i:Nat,
 (∀ d,ds[i]? = some d → J.go i H' ∧ ∀ x H'',J.yld i H' x H'' → ∃ F'',Gr F' H' F'' H'' ∧ Rp K mg F'' x d) ∧ (ds.length ≤ i → J.stop i H')
def SI (K:PySem.W.Frag) (mg:Str → Option Value) (E:XK) (t:TI) (m:MI):Prop:=∀ F0 H0 F H σ ρ,Rep K mg F0 H0 F H σ ρ → Ans mg E (ItOk K mg) F H (m ρ) (t σ H)
def OpD (K:PySem.W.Frag) (mg:Str → Option Value) (r:R2) (f:D → D → Res D):Prop:=∀ (E:XK) F H x y dx dy,Same F H → Rp K mg F x dx → Rp K mg F y dy → Ans mg E (Rp K mg) F H (f dx dy) (r x y H)
def UnD (K:PySem.W.Frag) (mg:Str → Option Value) (r:V → Hp → VK → Prop) (f:D → Res D):Prop:=∀ (E:XK) F H x dx,Same F H → Rp K mg F x dx → Ans mg E (Rp K mg) F H (f dx) (r x H)
def CallD (K:PySem.W.Frag) (mg:Str → Option Value) (r:List V → Hp → VK → Prop) (f:List D → Res D):Prop:=∀ (E:XK) F H xs ds,Same F H → Rps K mg F xs ds → Ans mg E (Rp K mg) F H (f ds) (r xs H)
section
variable {K:PySem.W.Frag} {mg:Str → Option Value} {E:XK} {ta tb tc:TE} {ma mb mc:ME} {sa sb:TT} {na nb:MB}
theorem Rep.ss {F0 H0 F H:Hp} {σ:St} {ρ:Ev} (r:Rep K mg F0 H0 F H σ ρ):Same F H:=r.g.s
theorem se_v (i:Nat):SE K mg E (tVar i) (v i):=by
 intro F0 H0 F H σ ρ r
 unfold v getC
 split
 ·next d h =>
  obtain ⟨x,h1,h2⟩:=r.im i d h
  exact .ret r.ss h2 fun Q q=>⟨x,h1,q⟩
 ·trivial
theorem se_c {x:V} {d:D} (h:∀ F,Rp K mg F x d):SE K mg E (tC x) (c d):=fun _ _ F _ _ _ r=>.ret r.ss (h F) fun _ q=>q
theorem se_op {r:R2} {f:D → D → Res D} (hf:OpD K mg r f) (ha:SE K mg E ta ma) (hb:SE K mg E tb mb):SE K mg E (tOp r ta tb) (o2 f ma mb):=by
 intro F0 H0 F H σ ρ rr
 refine (ha F0 H0 F H σ ρ rr).bind fun F1 H1 x dx g1 rx=>?_
 refine (hb F0 H0 F1 H1 σ ρ (rr.gr g1)).bind fun F2 H2 y dy g2 ry=>?_
 exact hf E F2 H2 x y dx dy g2.s (rx.same g2.f) ry
theorem se_un {r:V → Hp → VK → Prop} {f:D → Res D} (hf:UnD K mg r f) (ha:SE K mg E ta ma):SE K mg E (tUn r ta) (o1 f ma):=by
 intro F0 H0 F H σ ρ rr
 exact (ha F0 H0 F H σ ρ rr).bind fun F1 H1 x dx g1 rx=>hf E F1 H1 x dx g1.s rx
theorem sa_nil:SA K mg E tNil anil:=fun _ _ _ _ _ _ r=>.ret r.ss .nil fun _ q=>q
theorem sa_cons {t:TA} {m:MA} (ha:SE K mg E ta ma) (hr:SA K mg E t m):SA K mg E (tCons ta t) (acons ma m):=by
 intro F0 H0 F H σ ρ rr
 refine (ha F0 H0 F H σ ρ rr).bind fun F1 H1 x dx g1 rx=>?_
 refine (hr F0 H0 F1 H1 σ ρ (rr.gr g1)).bind fun F2 H2 xs ds g2 rs=>?_
 exact .ret g2.s (.cons (rx.same g2.f) rs) fun _ q=>q
theorem se_cb {r:List V → Hp → VK → Prop} {f:List D → Res D} {t:TA} {m:MA} (hf:CallD K mg r f) (ha:SA K mg E t m):SE K mg E (tCB r t) (on f m):=by
 intro F0 H0 F H σ ρ rr
 exact (ha F0 H0 F H σ ρ rr).bind fun F1 H1 x dx g1 rx=>hf E F1 H1 x dx g1.s rx
theorem ans_new {α:Type} {R:Hp → V → α → Prop} {F H:Hp} {a:α} {o:HO} {w:VK → Prop} (s:Same F H) (hr:∀ p,H p = none → R (upd F p o) (.ref p) a) (h:∀ Q:VK,(∀ p,H p = none → Q (.ref p) (upd H p o)) → w Q):Ans mg E R F H (.ok a) w :=
 fun Q q=>h Q fun p hp=>q (upd F p o) (upd H p o) (.ref p) (.new s hp o) (hr p hp)
def SAn (n:Nat) (m:MA):Prop:=∀ ρ ds,m ρ = .ok ds → ds.length = n
theorem san_nil:SAn 0 anil:=fun ρ ds h=>by cases h;rfl
theorem san_cons {n:Nat} {m:MA} (h:SAn n m):SAn (n + 1) (acons ma m):=fun ρ ds e=>by
 unfold acons at e
 cases ea:ma ρ with
 | ok x =>
  rw [ea] at e
  cases em:m ρ with
  | ok xs =>
   have e':(m ρ).bind (fun xs=>Res.ok (x :: xs)) = .ok ds:=e
   rw [em] at e'
   have e2:Res.ok (x :: xs) = .ok ds:=e'
   cases e2
   exact congrArg (· + 1) (h ρ xs em)
  | ex c =>
   have e':(m ρ).bind (fun xs=>Res.ok (x :: xs)) = .ok ds:=e
   rw [em] at e';cases e'
  | bad =>
   have e':(m ρ).bind (fun xs=>Res.ok (x :: xs)) = .ok ds:=e
   rw [em] at e';cases e'
 | ex c=>rw [ea] at e;cases e
 | bad=>rw [ea] at e;cases e
theorem se_tup {t:TA} {m:MA} {n:Nat} (ha:SA K mg E t m) (hl:SAn n m) (hn:n ≤ sizeLine):SE K mg E (tTup t) (mtp m):=by
 intro F0 H0 F H σ ρ rr
 have h:=ha F0 H0 F H σ ρ rr
 unfold mtp
 cases e:m ρ with
 | ok ds =>
  rw [e] at h
  exact fun Q q=>h _ fun F' H' xs g rs=>⟨by rw [rs.length,hl ρ ds e];exact hn,fun p hp=>q _ _ _ (g.trans (.new g.s hp _)) (.tup (SqT.of upd_same) (rs.same (same_new (g.s.free hp) _)))⟩
 | ex c =>
  rw [e] at h
  exact fun Q q=>h _ q
 | bad=>trivial
theorem se_lst {t:TA} {m:MA} {n:Nat} (ha:SA K mg E t m) (hl:SAn n m) (hn:n ≤ sizeLine):SE K mg E (tLst t) (mls m):=by
 intro F0 H0 F H σ ρ rr
 have h:=ha F0 H0 F H σ ρ rr
 unfold mls
 cases e:m ρ with
 | ok ds =>
  rw [e] at h
  exact fun Q q=>h _ fun F' H' xs g rs=>⟨by rw [rs.length,hl ρ ds e];exact hn,fun p hp=>q _ _ _ (g.trans (.new g.s hp _)) (.lst (SqL.of upd_same) (rs.same (same_new (g.s.free hp) _)))⟩
 | ex c =>
  rw [e] at h
  exact fun Q q=>h _ q
 | bad=>trivial
theorem st_b (ha:SE K mg E ta ma):STt K mg E (L2.tB ta) (trb ma):=by
 intro F0 H0 F H σ ρ rr
 refine (ha F0 H0 F H σ ρ rr).bind fun F1 H1 x dx g1 rx=>?_
 cases dx with
 | bl b=>cases rx;exact .ret g1.s rfl fun Q q=>⟨b,rfl,q⟩
 | _=>trivial
theorem st_test (ha:SE K mg E ta ma):STt K mg E (tTest ta) (trb ma):=st_b ha
theorem st_and (ha:STt K mg E sa na) (hb:STt K mg E sb nb):STt K mg E (tAnd sa sb) (bAnd na nb):=by
 intro F0 H0 F H σ ρ rr
 refine (ha F0 H0 F H σ ρ rr).bind fun F1 H1 x dx g1 rx=>?_
 cases (show x = dx from rx)
 cases x with
 | true =>
  have z:=hb F0 H0 F1 H1 σ ρ (rr.gr g1)
  simp only [if_true];exact z
 | false =>
  simp only [Bool.false_eq_true,if_false]
  exact Ans.ret (R:=RB) g1.s rfl fun Q q=>q
theorem st_or (ha:STt K mg E sa na) (hb:STt K mg E sb nb):STt K mg E (tOr sa sb) (bOr na nb):=by
 intro F0 H0 F H σ ρ rr
 refine (ha F0 H0 F H σ ρ rr).bind fun F1 H1 x dx g1 rx=>?_
 cases (show x = dx from rx)
 cases x with
 | true =>
  simp only [if_true]
  exact Ans.ret (R:=RB) g1.s rfl fun Q q=>q
 | false =>
  have z:=hb F0 H0 F1 H1 σ ρ (rr.gr g1)
  simp only [Bool.false_eq_true,if_false];exact z
theorem st_not (ha:STt K mg E sa na):STt K mg E (tNot sa) (bNot na):=by
 intro F0 H0 F H σ ρ rr
 refine (ha F0 H0 F H σ ρ rr).bind fun F1 H1 x dx g1 rx=>?_
 cases (show x = dx from rx)
 exact Ans.ret (R:=RB) g1.s rfl fun Q q=>q
theorem se_and (ha:SE K mg E ta ma) (hb:SE K mg E tb mb):SE K mg E (tAndV ta tb) (eAnd ma mb):=by
 intro F0 H0 F H σ ρ rr
 have z:=(st_b ha F0 H0 F H σ ρ rr).bind (R':=Rp K mg) (k:=fun x=>if x = true then mb ρ else .ok (D.bl false)) (w':=fun c H1 Q=>if c = true then tb σ H1 Q else Q (V.bl false) H1) fun F1 H1 x dx g1 rx=>by
  cases (show x = dx from rx)
  cases x with
  | true =>
   have z:=hb F0 H0 F1 H1 σ ρ (rr.gr g1)
   simp only [if_true];exact z
  | false =>
   simp only [Bool.false_eq_true,if_false]
   exact Ans.ret (R:=Rp K mg) g1.s (.bl false) fun Q q=>q
 exact z
theorem se_not (ha:SE K mg E ta ma):SE K mg E (tNotV ta) (eNot ma):=by
 intro F0 H0 F H σ ρ rr
 exact (st_b ha F0 H0 F H σ ρ rr).bind (R':=Rp K mg) (k:=fun x=>.ok (D.bl (!x))) (w':=fun c H1 Q=>Q (V.bl (!c)) H1) fun F1 H1 x dx g1 rx=>by
  cases (show x = dx from rx)
  exact Ans.ret (R:=Rp K mg) g1.s (.bl _) fun Q q=>q
theorem se_ife (hc:STt K mg E sa na) (ha:SE K mg E ta ma) (hb:SE K mg E tb mb):SE K mg E (tIf sa ta tb) (ife na ma mb):=by
 intro F0 H0 F H σ ρ rr
 refine (hc F0 H0 F H σ ρ rr).bind fun F1 H1 x dx g1 rx=>?_
 cases (show x = dx from rx)
 cases x with
 | true =>
  have z:=ha F0 H0 F1 H1 σ ρ (rr.gr g1)
  simp only [if_true];exact z
 | false =>
  have z:=hb F0 H0 F1 H1 σ ρ (rr.gr g1)
  simp only [Bool.false_eq_true,if_false];exact z
end
end L2.Ds
namespace L2.Ds
open PySem PySem.Spec PyProof.Rows Dl
section
variable {K:PySem.W.Frag} {mg:Str → Option Value} {E:XK}
theorem opD_ii {r:R2} {f:Int → Int → Res D} (h:∀ (E:XK) F H a b,Same F H → Ans mg E (Rp K mg) F H (f a b) (r (.int a) (.int b) H)):OpD K mg r (ii f):=by
 intro E F H x y dx dy s rx ry
 unfold ii
 split
 ·cases rx;cases ry;exact h E F H _ _ s
 ·trivial
theorem opD_I {C:Int → Int → Prop} {g:Int → Int → V} {f:Int → Int → Res D} (h:∀ a b,(∃ d,f a b = .ok d ∧ C a b ∧ ∀ F,Rp K mg F (g a b) d) ∨ f a b = .bad):OpD K mg (rI C g) (ii f):=by
 refine opD_ii fun E F H a b s=>?_
 rcases h a b with ⟨d,e,hc,hr⟩ | e
 ·rw [e];exact .ret s (hr F) fun Q q=>⟨a,b,rfl,rfl,hc,q⟩
 ·rw [e];trivial
theorem opD_I0 {g:Int → Int → V} {f:Int → Int → Res D} (h:∀ a b,(∃ d,f a b = .ok d ∧ ∀ F,Rp K mg F (g a b) d) ∨ f a b = .bad):OpD K mg (rI0 g) (ii f):=by
 refine opD_ii fun E F H a b s=>?_
 rcases h a b with ⟨d,e,hr⟩ | e
 ·rw [e];exact .ret s (hr F) fun Q q=>⟨a,b,rfl,rfl,q⟩
 ·rw [e];trivial
theorem opD_sub:OpD K mg (rI0 fun i j=>.int (i - j)) dSub:=opD_I0 fun _ _=>.inl ⟨_,rfl,fun _=>.int _⟩
theorem opD_lt:OpD K mg (rI0 fun i j=>.bl (decide (i < j))) dLt:=opD_I0 fun _ _=>.inl ⟨_,rfl,fun _=>.bl _⟩
theorem opD_le:OpD K mg (rI0 fun i j=>.bl (decide (i ≤ j))) dLe:=opD_I0 fun _ _=>.inl ⟨_,rfl,fun _=>.bl _⟩
theorem opD_gt:OpD K mg (rI0 fun i j=>.bl (decide (j < i))) dGt:=opD_I0 fun _ _=>.inl ⟨_,rfl,fun _=>.bl _⟩
theorem opD_ge:OpD K mg (rI0 fun i j=>.bl (decide (j ≤ i))) dGe:=opD_I0 fun _ _=>.inl ⟨_,rfl,fun _=>.bl _⟩
theorem opD_mod:OpD K mg (rI (fun _ j=>j ≠ 0) fun i j=>.int (i.fmod j)) dMod:=opD_I fun a b=>by
 unfold iMod
 by_cases h1:0 < b
 ·rw [if_pos h1]
  exact .inl ⟨_,rfl,by omega,fun _=>by rw [Int.fmod_eq_emod_of_nonneg a (by omega)];exact .int _⟩
 ·rw [if_neg h1]
  by_cases h2:b = 0
  ·rw [if_pos h2];exact .inr rfl
  ·rw [if_neg h2];exact .inl ⟨_,rfl,h2,fun _=>.int _⟩
theorem opD_div:OpD K mg (rI CDivG fun i j=>.int (i.fdiv j)) dDiv:=opD_I fun a b=>by
 unfold iDiv
 by_cases h0:b.natAbs.log2 < 9000
 ·rw [if_pos h0]
  by_cases h1:0 < b
  ·rw [if_pos h1]
   exact .inl ⟨_,rfl,⟨by omega,h0⟩,fun _=>by rw [Int.fdiv_eq_ediv_of_nonneg a (by omega)];exact .int _⟩
  ·rw [if_neg h1]
   by_cases h2:b = 0
   ·rw [if_pos h2];exact .inr rfl
   ·rw [if_neg h2];exact .inl ⟨_,rfl,⟨h2,h0⟩,fun _=>.int _⟩
 ·rw [if_neg h0];exact .inr rfl
theorem opD_pow:OpD K mg (rI CPow fun i j=>.int (i ^ j.toNat)) dPow:=opD_I fun a b=>by
 unfold iPow
 by_cases h:0 ≤ b ∧ b ≤ 1000000 ∧ a.natAbs < 2 ^ 64
 ·rw [if_pos h];exact .inl ⟨_,rfl,h,fun _=>.int _⟩
 ·rw [if_neg h];exact .inr rfl
theorem opD_shl:OpD K mg (rI CPow fun i j=>.int (i * 2 ^ j.toNat)) dShl:=opD_I fun a b=>by
 unfold iShl
 by_cases h:0 ≤ b ∧ b ≤ 1000000 ∧ a.natAbs < 2 ^ 64
 ·rw [if_pos h];exact .inl ⟨_,rfl,h,fun _=>.int _⟩
 ·rw [if_neg h];exact .inr rfl
theorem opD_shr:OpD K mg (rI (fun _ j=>0 ≤ j) fun i j=>.int (i / 2 ^ j.toNat)) dShr:=opD_I fun a b=>by
 unfold iShr
 by_cases h:0 ≤ b
 ·rw [if_pos h];exact .inl ⟨_,rfl,h,fun _=>.int _⟩
 ·rw [if_neg h];exact .inr rfl
theorem unD_neg {r:V → Hp → VK → Prop} (h:∀ i H Q,Q (.int (-i)) H → r (.int i) H Q):UnD K mg r dNeg:=by
 intro E F H x dx s rx
 unfold dNeg
 split
 ·cases rx;exact .ret s (.int _) fun Q q=>h _ _ _ q
 ·trivial
def rCatL (K:PySem.W.Frag):R2:=fun x y H Q=>∃ l b xs zs,x = .ref l ∧ y = .ref b ∧ SqL K H l xs ∧ SqL K H b zs ∧ xs.length + zs.length ≤ sizeLine ∧ ∀ p,H p = none → Q (.ref p) (upd H p (.lst (xs ++ zs)))
def rCatU (K:PySem.W.Frag):R2:=fun x y H Q=>∃ a b xs ys,x = .ref a ∧ y = .ref b ∧ SqT K H a xs ∧ SqT K H b ys ∧ xs.length + ys.length ≤ sizeLine ∧
 (xs = [] → Q (.ref b) H) ∧ (xs ≠ [] → ys = [] → Q (.ref a) H) ∧ (xs ≠ [] → ys ≠ [] → ∀ p,H p = none → Q (.ref p) (upd H p (.tup (xs ++ ys))))
def rAddS:R2:=fun x y H Q=>∃ i j:Str,x = .str i ∧ y = .str j ∧ i.length + j.length ≤ sizeLine ∧ Q (.str (i ++ j)) H
def rAddD (K:PySem.W.Frag):R2:=fun x y H Q=>rI0 (fun i j=>.int (i + j)) x y H Q ∨ rCatL K x y H Q ∨ rCatU K x y H Q ∨ rAddS x y H Q
theorem lim_le {n:Nat} (h:n ≤ LIM):n ≤ sizeLine:=Nat.le_trans h (by decide)
theorem opD_add:OpD K mg (rAddD K) dAdd:=by
 intro E F H x y dx dy s rx ry
 unfold dAdd
 split
 ·cases rx;cases ry
  exact .ret s (.int _) fun Q q=>.inl ⟨_,_,rfl,rfl,q⟩
 ·next as bs =>
  by_cases h:as.length + bs.length ≤ LIM
  ·rw [if_pos h]
   cases rx with
   | lst ha ra =>
    cases ry with
    | lst hb rb =>
     refine ans_new s (o:=.lst _) (fun p hp=>.lst (SqL.of upd_same) ((Rps.app rb ra).same (same_new (s.free hp) _))) fun Q q=>.inr (.inl ⟨_,_,_,_,rfl,rfl,s.seq ha,s.seq hb,?_,q⟩)
     rw [ra.length,rb.length];exact lim_le h
  ·rw [if_neg h];trivial
 ·next as bs =>
  by_cases h:as.length + bs.length ≤ LIM
  ·rw [if_pos h]
   cases rx with
   | tup ha ra =>
    cases ry with
    | tup hb rb =>
     rename_i a xs b ys
     have hl:xs.length + ys.length ≤ sizeLine:=by rw [ra.length,rb.length];exact lim_le h
     intro Q q
     refine .inr (.inr (.inl ⟨a,b,xs,ys,rfl,rfl,seqT_same s ha,seqT_same s hb,hl,fun e=>?_,fun _ e=>?_,fun _ _ p hp=>?_⟩))
     ·subst e
      cases ra
      exact q F H _ (.refl s) (.tup hb rb)
     ·subst e
      cases rb
      rw [List.append_nil] at q
      exact q F H _ (.refl s) (.tup ha ra)
     ·exact q _ _ _ (.new s hp _) (.tup (SqT.of upd_same) ((Rps.app rb ra).same (same_new (s.free hp) _)))
  ·rw [if_neg h];trivial
 ·next a b =>
  by_cases h:a.length + b.length ≤ LIM
  ·rw [if_pos h]
   cases rx;cases ry
   exact .ret s (.str _) fun Q q=>.inr (.inr (.inr ⟨_,_,rfl,rfl,lim_le h,q⟩))
  ·rw [if_neg h];trivial
 ·trivial
theorem se_isN {ta:TE} {ma:ME} (ha:SE K mg E ta ma):SE K mg E (tOp (fun x y H Q=>y = .non ∧ Q (.bl (decide (x = .non))) H) ta (tC .non)) (o1 dIsN ma):=by
 intro F0 H0 F H σ ρ rr
 refine (ha F0 H0 F H σ ρ rr).bind fun F1 H1 x dx g1 rx=>?_
 have e:decide (x = V.non) = isNon dx:=by cases rx <;> rfl
 exact .ret g1.s (.bl _) fun Q q=>⟨rfl,by rw [e];exact q⟩
theorem se_notN {ta:TE} {ma:ME} (ha:SE K mg E ta ma):SE K mg E (tOp (fun x y H Q=>y = .non ∧ Q (.bl (!decide (x = .non))) H) ta (tC .non)) (o1 dNotN ma):=by
 intro F0 H0 F H σ ρ rr
 refine (ha F0 H0 F H σ ρ rr).bind fun F1 H1 x dx g1 rx=>?_
 have e:decide (x = V.non) = isNon dx:=by cases rx <;> rfl
 exact .ret g1.s (.bl _) fun Q q=>⟨rfl,by rw [e];exact q⟩
theorem at_atI {F:Hp} {xs:List V} {ds:List D} {i:Int} {d:D} (r:Rps K mg F xs ds) (h:at_ ds i = some d):∃ x,atI xs i = some x ∧ Rp K mg F x d:=by
 have hl:=r.length
 unfold at_ at h
 unfold atI ixN
 by_cases h0:0 ≤ i
 ·rw [if_pos h0] at h
  obtain ⟨x,e,rx⟩:=r.get h
  have lt:i.toNat < xs.length:=(List.getElem?_eq_some_iff.mp e).1
  exact ⟨x,by rw [if_pos h0,if_pos (by omega)];exact e,rx⟩
 ·rw [if_neg h0] at h
  by_cases h1:-(ds.length:Int) ≤ i
  ·rw [if_pos h1] at h
   obtain ⟨x,e,rx⟩:=r.get h
   exact ⟨x,by rw [if_neg h0,if_pos (by omega),hl];exact e,rx⟩
  ·rw [if_neg h1] at h;cases h
def rIxD (K:PySem.W.Frag):R2:=fun x y H Q=>rIxL K x y H Q ∨ rIxT K x y H Q
theorem opD_ix:OpD K mg (rIxD K) dIx:=by
 intro E F H x y dx dy s rx ry
 unfold dIx
 split
 ·next ds i =>
  cases e:at_ ds i with
  | none=>trivial
  | some d =>
   cases rx with
   | lst ha ra =>
    cases ry
    obtain ⟨z,e1,rz⟩:=at_atI ra e
    exact Ans.ret s rz fun Q q=>.inl ⟨_,_,_,_,rfl,rfl,s.seq ha,e1,q⟩
 ·next ds i =>
  cases e:at_ ds i with
  | none=>trivial
  | some d =>
   cases rx with
   | tup ha ra =>
    cases ry
    obtain ⟨z,e1,rz⟩:=at_atI ra e
    exact Ans.ret s rz fun Q q=>.inr ⟨_,_,_,_,rfl,rfl,seqT_same s ha,e1,q⟩
 ·trivial
theorem cutAt_eq (n d:Nat) (o:Option Int):cutAt n d o = HT.sIx n d o:=by cases o <;> rfl
theorem cut_rps {F:Hp} {xs:List V} {ds:List D} (r:Rps K mg F xs ds) (lo hi:Option Int):Rps K mg F (cutV xs lo hi) (cutL ds lo hi):=by
 unfold cutV cutL
 simp only [cutAt_eq,r.length]
 exact (r.drop _).take _
def rSlU (K:PySem.W.Frag):V → Option Int → Option Int → Hp → VK → Prop:=fun x lo hi H Q=>∃ a xs,x = .ref a ∧ SqT K H a xs ∧
 ((HT.sIx xs.length 0 lo = 0 ∧ HT.sIx xs.length xs.length hi = xs.length) → Q (.ref a) H) ∧ (¬ (HT.sIx xs.length 0 lo = 0 ∧ HT.sIx xs.length xs.length hi = xs.length) → ∀ p,H p = none → Q (.ref p) (upd H p (.tup (cutV xs lo hi))))
def rSlD (K:PySem.W.Frag):V → Option Int → Option Int → Hp → VK → Prop:=fun x lo hi H Q=>rSlL K x lo hi H Q ∨ rSlU K x lo hi H Q
theorem se_cut {ta:TE} {ma:ME} {tl th:TO} {ml mh:Ev → Res (Option Int)} (ha:SE K mg E ta ma) (hl:SO K mg E tl ml) (hh:SO K mg E th mh):SE K mg E (tSl (rSlD K) ta tl th) (cut ma ml mh):=by
 intro F0 H0 F H σ ρ rr
 refine (ha F0 H0 F H σ ρ rr).bind fun F1 H1 x dx g1 rx=>?_
 refine (hl F0 H0 F1 H1 σ ρ (rr.gr g1)).bind fun F2 H2 l l' g2 e2=>?_
 cases (show l = l' from e2)
 refine (hh F0 H0 F2 H2 σ ρ ((rr.gr g1).gr g2)).bind fun F3 H3 h h' g3 e3=>?_
 cases (show h = h' from e3)
 have rx':=rx.same (g2.f.trans g3.f)
 unfold dCut
 split
 ·cases rx' with
  | lst hx r =>
   refine ans_new g3.s (o:=.lst _) (fun p hp=>.lst (SqL.of upd_same) ((cut_rps r l h).same (same_new (g3.s.free hp) _))) fun Q q=>.inl ⟨_,_,rfl,g3.s.seq hx,q⟩
 ·cases rx' with
  | tup hx r =>
   rename_i ds a xs
   intro Q q
   refine .inr ⟨a,xs,rfl,seqT_same g3.s hx,fun e=>?_,fun _ p hp=>q _ _ _ (.new g3.s hp _) (.tup (SqT.of upd_same) ((cut_rps r l h).same (same_new (g3.s.free hp) _)))⟩
   have ec:cutL ds l h = ds:=by
    unfold cutL
    simp only [cutAt_eq,← r.length,e.1,e.2]
    rw [List.drop_zero,Nat.sub_zero,r.length,List.take_length]
   rw [ec] at q
   exact q F3 H3 _ (.refl g3.s) (.tup hx r)
 ·trivial
theorem so_none:SO K mg E tNoPart pno:=fun _ _ _ _ _ _ r=>Ans.ret (R:=RO) r.ss rfl fun _ q=>q
theorem so_some {ta:TE} {ma:ME} (ha:SE K mg E ta ma):SO K mg E (tPart ta) (pso ma):=by
 intro F0 H0 F H σ ρ rr
 refine (ha F0 H0 F H σ ρ rr).bind fun F1 H1 x dx g1 rx=>?_
 cases dx with
 | int i=>cases rx;exact Ans.ret (R:=RO) g1.s rfl fun Q q=>⟨i,rfl,q⟩
 | _=>trivial
theorem callD_len:CallD K mg (fun xs H Q=>∃ p ys,xs = [.ref p] ∧ (SqL K H p ys ∨ SqT K H p ys) ∧ Q (.int ys.length) H) bLen:=by
 intro E F H xs ds s r
 unfold bLen
 split
 ·obtain ⟨x,rfl,rx⟩:=r.one
  cases rx with
  | lst h q=>rw [← q.length];exact .ret s (.int _) fun Q q=>⟨_,_,rfl,.inl (s.seq h),q⟩
 ·obtain ⟨x,rfl,rx⟩:=r.one
  cases rx with
  | tup h q=>rw [← q.length];exact .ret s (.int _) fun Q q=>⟨_,_,rfl,.inr (seqT_same s h),q⟩
 ·trivial
theorem callD_abs:CallD K mg (fun xs H Q=>∃ i,xs = [.int i] ∧ Q (.int (if i < 0 then -i else i)) H) bAbs:=by
 intro E F H xs ds s r
 unfold bAbs
 split
 ·obtain ⟨x,rfl,rx⟩:=r.one
  cases rx
  exact .ret s (.int _) fun Q q=>⟨_,rfl,q⟩
 ·trivial
theorem callD_tuple:CallD K mg (fun xs H Q=>∃ p ys,xs = [.ref p] ∧ ((SqL K H p ys ∧ ∀ l,H l = none → Q (.ref l) (upd H l (.tup ys))) ∨ (SqT K H p ys ∧ Q (.ref p) H))) bTup:=by
 intro E F H xs ds s r
 unfold bTup
 split
 ·obtain ⟨x,rfl,rx⟩:=r.one
  cases rx with
  | lst h q=>exact ans_new s (o:=.tup _) (fun p hp=>.tup (SqT.of upd_same) (q.same (same_new (s.free hp) _))) fun Q z=>⟨_,_,rfl,.inl ⟨s.seq h,z⟩⟩
 ·obtain ⟨x,rfl,rx⟩:=r.one
  cases rx with
  | tup h q=>exact .ret s (.tup h q) fun Q z=>⟨_,_,rfl,.inr ⟨seqT_same s h,z⟩⟩
 ·trivial
theorem callD_list:CallD K mg (fun xs H Q=>∃ p ys,xs = [.ref p] ∧ (SqL K H p ys ∨ SqT K H p ys) ∧ ∀ l,H l = none → Q (.ref l) (upd H l (.lst ys))) bLst:=by
 intro E F H xs ds s r
 unfold bLst
 split
 ·obtain ⟨x,rfl,rx⟩:=r.one
  cases rx with
  | lst h q=>exact ans_new s (o:=.lst _) (fun p hp=>.lst (SqL.of upd_same) (q.same (same_new (s.free hp) _))) fun Q z=>⟨_,_,rfl,.inl (s.seq h),z⟩
 ·obtain ⟨x,rfl,rx⟩:=r.one
  cases rx with
  | tup h q=>exact ans_new s (o:=.lst _) (fun p hp=>.lst (SqL.of upd_same) (q.same (same_new (s.free hp) _))) fun Q z=>⟨_,_,rfl,.inr (seqT_same s h),z⟩
 ·trivial
def spD (K:PySem.W.Frag) (mg:Str → Option Value) (n:Nat) (m:List D → Res D):Sp:=fun vs H Q E=>vs.length = n ∧ ∃ F ds,Same F H ∧ Rps K mg F vs ds ∧ m ds ≠ .bad ∧
 (∀ d,m ds = .ok d → ∀ F' H' x,Gr F H F' H' → Rp K mg F' x d → Q x H') ∧ (∀ c,m ds = .ex c → ∀ F' H' C,Gr F H F' H' → mg c = some (.ref C) → E (.ref C) none H')
theorem ans_call {n:Nat} {m:List D → Res D} {F H:Hp} {vs:List V} {ds:List D} (s:Same F H) (r:Rps K mg F vs ds) (hl:ds.length = n):Ans mg E (Rp K mg) F H (m ds) (fun Q=>spD K mg n m vs H Q E):=by
 have hv:vs.length = n:=r.length.trans hl
 cases e:m ds with
 | ok d =>
  intro Q q
  refine ⟨hv,F,ds,s,r,fun z=>?_,fun d' e'=>?_,fun c e'=>?_⟩
  ·rw [e] at z;cases z
  ·rw [e] at e';cases e';exact q
  ·rw [e] at e';cases e'
 | ex c =>
  intro Q q
  refine ⟨hv,F,ds,s,r,fun z=>?_,fun d' e'=>?_,fun c e'=>?_⟩
  ·rw [e] at z;cases z
  ·rw [e] at e';cases e'
  ·rw [e] at e';cases e';exact q
 | bad=>trivial
theorem se_call {n:Nat} {m:List D → Res D} {t:TA} {ma:MA} (ha:SA K mg E t ma) (hl:SAn n ma):SE K mg E (tCall (spD K mg n m) [] E t) (on m ma):=by
 intro F0 H0 F H σ ρ rr
 refine (ha F0 H0 F H σ ρ rr).bindE (w':=fun vs H1 Q=>spD K mg n m (vs ++ []) H1 Q E) fun ds e F1 H1 vs g1 rs=>?_
 have z:=ans_call (E:=E) (m:=m) g1.s rs (hl ρ ds e)
 simp only [List.append_nil]
 exact z
end
end L2.Ds
namespace L2.Ds
open PySem PySem.Spec PyProof.Rows Dl
section
variable {K:PySem.W.Frag} {mg:Str → Option Value} {E:XK} {ta:TE} {ma:ME} {F0 H0 F H:Hp}
theorem AnsS.mono {F1:Hp} {r:Res Fl} {w:Ends → Prop} (s:Same F F1) (h:AnsS K mg E F0 H0 F1 r w):AnsS K mg E F0 H0 F r w:=by
 cases r with
 | ok f =>
  cases f with
  | nx ρ=>exact fun D q=>h D fun F' H' σ' s' r'=>q F' H' σ' (s.trans s') r'
  | bk ρ=>exact fun D q=>h D fun F' H' σ' s' r'=>q F' H' σ' (s.trans s') r'
  | ct ρ=>exact fun D q=>h D fun F' H' σ' s' r'=>q F' H' σ' (s.trans s') r'
  | rt d=>exact h
 | ex c=>exact h
 | bad=>trivial
theorem Ans.stm {α β:Type} {R:Hp → β → α → Prop} {r:Res α} {w:(β → Hp → Prop) → Prop} {k:α → Res Fl} {w':β → Hp → Ends → Prop} (h1:Ans mg E R F H r w) (g0:Gr F0 H0 F H) (h2:∀ a,r = .ok a → ∀ F1 H1 b,Gr F H F1 H1 → R F1 b a → AnsS K mg E F0 H0 F1 (k a) (w' b H1)) :
  AnsS K mg E F0 H0 F (r.bind k) (fun D=>w fun b H1=>w' b H1 D):=by
 cases r with
 | ok a =>
  show AnsS K mg E F0 H0 F (k a) _
  have h2':=fun F1 H1 b (g:Gr F H F1 H1) q=>(h2 a rfl F1 H1 b g q).mono g.f
  generalize k a = r2 at h2'
  cases r2 with
  | ok f =>
   cases f with
   | nx ρ=>exact fun D q=>h1 _ fun F1 H1 b g rb=>h2' F1 H1 b g rb D q
   | bk ρ=>exact fun D q=>h1 _ fun F1 H1 b g rb=>h2' F1 H1 b g rb D q
   | ct ρ=>exact fun D q=>h1 _ fun F1 H1 b g rb=>h2' F1 H1 b g rb D q
   | rt d=>exact fun D q=>h1 _ fun F1 H1 b g rb=>h2' F1 H1 b g rb D q
  | ex c=>exact fun D q=>h1 _ fun F1 H1 b g rb=>h2' F1 H1 b g rb D q
  | bad=>trivial
 | ex c=>exact fun D q=>h1 _ fun F1 H1 C g hc=>q F1 H1 C (g0.trans g) hc
 | bad=>trivial
theorem ss_nop:SS K mg E tNext nop:=fun _ _ _ _ _ _ r D q=>q _ _ _ (Same.refl _) r
theorem ss_seq {t u:TS} {m n:MS} (h1:SS K mg E t m) (h2:SS K mg E u n):SS K mg E (tSeq t u) (sq m n):=by
 intro F0 H0 F H σ ρ rr
 have h:=h1 F0 H0 F H σ ρ rr
 unfold sq
 cases e:m ρ with
 | ok f =>
  rw [e] at h
  cases f with
  | nx ρ' =>
   show AnsS K mg E F0 H0 F (n ρ') _
   have h2':=fun F1 H1 σ1 (s:Same F F1) r1=>(h2 F0 H0 F1 H1 σ1 ρ' r1).mono s
   generalize n ρ' = r2 at h2'
   cases r2 with
   | ok f =>
    cases f with
    | nx ρ=>exact fun D q=>h _ fun F1 H1 σ1 s r1=>h2' F1 H1 σ1 s r1 D q
    | bk ρ=>exact fun D q=>h _ fun F1 H1 σ1 s r1=>h2' F1 H1 σ1 s r1 D q
    | ct ρ=>exact fun D q=>h _ fun F1 H1 σ1 s r1=>h2' F1 H1 σ1 s r1 D q
    | rt d=>exact fun D q=>h _ fun F1 H1 σ1 s r1=>h2' F1 H1 σ1 s r1 D q
   | ex c=>exact fun D q=>h _ fun F1 H1 σ1 s r1=>h2' F1 H1 σ1 s r1 D q
   | bad=>trivial
  | bk ρ'=>exact fun D q=>h _ q
  | ct ρ'=>exact fun D q=>h _ q
  | rt d=>exact fun D q=>h _ q
 | ex c=>rw [e] at h;exact fun D q=>h _ q
 | bad=>trivial
theorem ss_drop (ha:SE K mg E ta ma):SS K mg E (tDrop ta) (drp ma):=by
 intro F0 H0 F H σ ρ rr
 exact (ha F0 H0 F H σ ρ rr).stm (w':=fun _ H1 D=>D.nx σ H1) rr.g fun d _ F1 H1 x g1 rx=>fun D q=>q F1 H1 σ (Same.refl _) (rr.gr g1)
theorem ss_ret (ha:SE K mg E ta ma):SS K mg E (tRet ta) (ret ma):=by
 intro F0 H0 F H σ ρ rr
 exact (ha F0 H0 F H σ ρ rr).stm (w':=fun x H1 D=>D.rt x H1) rr.g fun d _ F1 H1 x g1 rx=>fun D q=>q F1 H1 x (rr.g.trans g1) rx
theorem ss_cnt:SS K mg E tCont cnt:=fun _ _ _ _ _ _ r D q=>q _ _ _ (Same.refl _) r
theorem ss_if {sc:TT} {nc:MB} {t u:TS} {m n:MS} (hc:STt K mg E sc nc) (h1:SS K mg E t m) (h2:SS K mg E u n):SS K mg E (tIfS sc t u) (ifs nc m n):=by
 intro F0 H0 F H σ ρ rr
 refine (hc F0 H0 F H σ ρ rr).stm (w':=fun b H1 D=>if b = true then t D σ H1 else u D σ H1) rr.g fun b _ F1 H1 x g1 rx=>?_
 cases (show x = b from rx)
 cases b with
 | true =>
  have z:=h1 F0 H0 F1 H1 σ ρ (rr.gr g1)
  simp only [if_true];exact z
 | false =>
  have z:=h2 F0 H0 F1 H1 σ ρ (rr.gr g1)
  simp only [Bool.false_eq_true,if_false];exact z
theorem drop_set_lt {α:Type} {l:List α} {i n:Nat} {x:α} (h:i < n):(l.set i x).drop n = l.drop n:=by
 rw [List.drop_set,if_pos h]
theorem sg_name {i n:Nat} (h:i < n):SG K mg n (gName i) (gN i):=fun _ _ _ _ _ _ _ _ r rx _ q=>q _ _ _ (Same.refl _) (r.set i rx) (drop_set_lt h)
theorem sgs_nil {n:Nat}:SGs K mg n gNil gs0:=by
 intro F0 H0 F H σ ρ xs ds r rs
 unfold gs0
 split
 ·cases rs
  exact fun Q q=>⟨rfl,q _ _ _ (Same.refl _) r rfl⟩
 ·trivial
theorem sgs_cons {n:Nat} {t:TG} {u:TGs} {g:MG} {gs:MGs} (h1:SG K mg n t g) (h2:SGs K mg n u gs):SGs K mg n (gCons t u) (gs1 g gs):=by
 intro F0 H0 F H σ ρ xs ds r rs
 unfold gs1
 cases rs with
 | nil=>trivial
 | cons rx rs =>
  rename_i x xs d ds
  have h:=h1 F0 H0 F H σ ρ x d r rx
  show AnsG K mg F0 H0 F n σ ((g d ρ).bind fun ρ'=>gs ds ρ') _
  cases e:g d ρ with
  | ok ρ' =>
   rw [e] at h
   show AnsG K mg F0 H0 F n σ (gs ds ρ') _
   cases e2:gs ds ρ' with
   | ok ρ'' =>
    refine fun Q q=>⟨x,xs,rfl,h _ fun F1 H1 σ1 s1 r1 d1=>?_⟩
    have h':=h2 F0 H0 F1 H1 σ1 ρ' xs ds r1 (rs.same s1)
    rw [e2] at h'
    exact h' _ fun F2 H2 σ2 s2 r2 d2=>q F2 H2 σ2 (s1.trans s2) r2 (d2.trans d1)
   | ex c=>trivial
   | bad=>trivial
  | ex c=>trivial
  | bad=>trivial
def gLst (K:PySem.W.Frag) (n:Nat) (t:TGs):TG:=fun v σ H Q=>∃ a xs,v = .ref a ∧ SqL K H a xs ∧ xs.length = n ∧ t xs σ H Q
def gSeq (K:PySem.W.Frag) (n:Nat) (t:TGs):TG:=fun v σ H Q=>gTup K n t v σ H Q ∨ gLst K n t v σ H Q
theorem sg_seq {n k:Nat} {t:TGs} {g:MGs} (h:SGs K mg n t g):SG K mg n (gSeq K k t) (gU k g):=by
 intro F0 H0 F H σ ρ x d r rx
 unfold gU items
 split
 ·next ds =>
  show AnsG K mg F0 H0 F n σ (if ds.length = k then g ds ρ else .bad) _
  by_cases hl:ds.length = k
  ·rw [if_pos hl]
   cases rx with
   | lst ha ra =>
    have h':=h F0 H0 F H σ ρ _ _ r ra
    cases e:g ds ρ with
    | ok ρ' =>
     rw [e] at h'
     exact fun Q q=>.inr ⟨_,_,rfl,r.ss.seq ha,ra.length.trans hl,h' Q q⟩
    | ex c=>trivial
    | bad=>trivial
  ·rw [if_neg hl];trivial
 ·next ds =>
  show AnsG K mg F0 H0 F n σ (if ds.length = k then g ds ρ else .bad) _
  by_cases hl:ds.length = k
  ·rw [if_pos hl]
   cases rx with
   | tup ha ra =>
    have h':=h F0 H0 F H σ ρ _ _ r ra
    cases e:g ds ρ with
    | ok ρ' =>
     rw [e] at h'
     exact fun Q q=>.inl ⟨_,_,rfl,seqT_same r.ss ha,ra.length.trans hl,h' Q q⟩
    | ex c=>trivial
    | bad=>trivial
  ·rw [if_neg hl];trivial
 ·trivial
theorem ss_asg {n:Nat} {t:TG} {g:MG} (ha:SE K mg E ta ma) (hg:SG K mg n t g) (hx:∀ d ρ c,g d ρ ≠ .ex c):SS K mg E (tAsg ta t) (asg g ma):=by
 intro F0 H0 F H σ ρ rr
 refine (ha F0 H0 F H σ ρ rr).stm (w':=fun x H1 D=>t x σ H1 D.nx) rr.g fun d _ F1 H1 x g1 rx=>?_
 have h:=hg F0 H0 F1 H1 σ ρ x d (rr.gr g1) rx
 cases e:g d ρ with
 | ok ρ' =>
  rw [e] at h
  exact fun D q=>h _ fun F' H' σ' s r' _=>q F' H' σ' s r'
 | ex c=>exact absurd e (hx d ρ c)
 | bad=>trivial
theorem ss_set {i:Nat} (ha:SE K mg E ta ma):SS K mg E (tAsg ta (gName i)) (st i ma):=by
 intro F0 H0 F H σ ρ rr
 exact (ha F0 H0 F H σ ρ rr).stm (w':=fun x H1 D=>D.nx (σ.set i (some x)) H1) rr.g fun d _ F1 H1 x g1 rx=>fun D q=>q F1 H1 _ (Same.refl _) ((rr.gr g1).set i rx)
theorem ss_frz {i:Nat} {t:TS} {m:MS} (h:SS K mg E t m):SS K mg E t (frz i m):=by
 intro F0 H0 F H σ ρ rr
 unfold frz getO
 split
 ·next xs e =>
  show AnsS K mg E F0 H0 F (m (ρ.set i (.im (.lst xs)))) _
  obtain ⟨F',s,r'⟩:=rr.frz e
  exact (h F0 H0 F' H σ _ r').mono s
 ·trivial
theorem ss_app {i:Nat} (ha:SE K mg E ta ma) (hty:∀ H a xs,H a = some (.lst xs) → tyV K "list" (.ref a) H):SS K mg E (tDrop (tBM K "list" rAppend (tVar i) (tCons ta tNil))) (app i ma):=by
 intro F0 H0 F H σ ρ rr
 unfold app getO
 split
 ·next ds e =>
  show AnsS K mg E F0 H0 F ((ma ρ).bind fun d=>if ds.length < LIM then .ok (.nx (ρ.set i (.ow (ds ++ [d])))) else .bad) _
  obtain ⟨a,xs,e2,e4,e5,e3,hr⟩:=rr.ow i ds e
  have hl:xs.length = ds.length:=hr.length
  have h:=(ha F0 H0 F H σ ρ rr).stm (K:=K) (k:=fun d=>if ds.length < LIM then .ok (.nx (ρ.set i (.ow (ds ++ [d])))) else .bad) (w':=fun x H2 D=>rAppend (.ref a) [x] H2 fun _ H3=>D.nx σ H3) rr.g fun d _ F1 H1 x g1 rx=>?_
  ·generalize ((ma ρ).bind fun d=>if ds.length < LIM then Res.ok (Fl.nx (ρ.set i (.ow (ds ++ [d])))) else .bad) = res at h
   have fin:∀ D:Ends,(ta σ H fun x H2=>rAppend (.ref a) [x] H2 fun _ H3=>D.nx σ H3) → tDrop (tBM K "list" rAppend (tVar i) (tCons ta tNil)) D σ H:=fun D z=>⟨.ref a,e2,hty H a xs e3,z⟩
   cases res with
   | ok f =>
    cases f with
    | nx ρ=>exact fun D q=>fin D (h D q)
    | bk ρ=>exact fun D q=>fin D (h D q)
    | ct ρ=>exact fun D q=>fin D (h D q)
    | rt d=>exact fun D q=>fin D (h D q)
   | ex c=>exact fun D q=>fin D (h D q)
   | bad=>trivial
  ·by_cases hlim:ds.length < LIM
   ·simp only [hlim,if_true]
    have r1:=rr.gr g1
    obtain ⟨q1,q2⟩:=g1.o a _ e5 e3
    exact fun D q=>⟨a,xs,x,rfl,rfl,q2,by rw [hl];exact Nat.lt_of_lt_of_le hlim (by decide),q F1 _ σ (Same.refl _) (r1.app e e2 q2 e4 q1 (hr.same g1.f) rx)⟩
   ·simp only [hlim,if_false];trivial
 ·trivial
def iSeq (K:PySem.W.Frag) (tl:TE):TI:=fun σ H R=>tl σ H fun x H1=>∃ a,x = .ref a ∧ (((∃ xs,SqL K H1 a xs) ∧ R (Itl K a) H1) ∨ ((∃ xs,SqT K H1 a xs) ∧ R (Itt K a) H1))
theorem itl_ok {a:Addr} {xs:List V} {ds:List D} (h:SqL K F a xs) (r:Rps K mg F xs ds):ItOk K mg F (Itl K a) ds:=by
 intro F' H' s1 s2 i
 have hq:SqL K H' a xs:=(s1.trans s2).seq h
 refine ⟨fun d e=>?_,fun hl=>⟨xs,hq,by rw [r.length];exact hl⟩⟩
 obtain ⟨x,e1,rx⟩:=r.get e
 refine ⟨⟨xs,x,hq,e1⟩,fun y H'' q=>?_⟩
 obtain ⟨rfl,q⟩:=q
 have e2:=q xs hq
 rw [e1] at e2;cases e2
 exact ⟨F',.refl s2,rx.same s1⟩
theorem itt_ok {a:Addr} {xs:List V} {ds:List D} (h:SqT K F a xs) (r:Rps K mg F xs ds):ItOk K mg F (Itt K a) ds:=by
 intro F' H' s1 s2 i
 have hq:SqT K H' a xs:=seqT_same (s1.trans s2) h
 refine ⟨fun d e=>?_,fun hl=>⟨xs,hq,by rw [r.length];exact hl⟩⟩
 obtain ⟨x,e1,rx⟩:=r.get e
 refine ⟨⟨xs,x,hq,e1⟩,fun y H'' q=>?_⟩
 obtain ⟨rfl,q⟩:=q
 have e2:=q xs hq
 rw [e1] at e2;cases e2
 exact ⟨F',.refl s2,rx.same s1⟩
theorem itr_ok (lo:Int) (n:Nat):ItOk K mg F (Itr lo n) (rangeD lo n):=by
 intro F' H' s1 s2 i
 unfold rangeD
 refine ⟨fun d e=>?_,fun hl=>?_⟩
 ·rw [List.getElem?_map] at e
  have hi:i < n:=by
   rcases Nat.lt_or_ge i n with z | z
   ·exact z
   ·rw [List.getElem?_eq_none (by rw [List.length_range];exact z)] at e;cases e
  rw [List.getElem?_range hi] at e
  cases e
  refine ⟨hi,fun y H'' q=>?_⟩
  obtain ⟨rfl,rfl⟩:=q
  exact ⟨F',.refl s2,.int _⟩
 ·rw [List.length_map,List.length_range] at hl
  exact hl
theorem si_seq (ha:SE K mg E ta ma):SI K mg E (iSeq K ta) (iv ma):=by
 intro F0 H0 F H σ ρ rr
 refine (ha F0 H0 F H σ ρ rr).bind fun F1 H1 x dx g1 rx=>?_
 cases dx with
 | lst ds =>
  cases rx with
  | lst h r=>exact Ans.ret (R:=ItOk K mg) g1.s (itl_ok h r) fun Q q=>⟨_,rfl,.inl ⟨⟨_,g1.s.seq h⟩,q⟩⟩
 | tup ds =>
  cases rx with
  | tup h r=>exact Ans.ret (R:=ItOk K mg) g1.s (itt_ok h r) fun Q q=>⟨_,rfl,.inr ⟨⟨_,seqT_same g1.s h⟩,q⟩⟩
 | _=>trivial
theorem si_r1 {t:TA} {m:MA} (ha:SA K mg E t m):SI K mg E (iRng1 t) (r1 m):=by
 intro F0 H0 F H σ ρ rr
 refine (ha F0 H0 F H σ ρ rr).bind fun F1 H1 xs ds g1 rs=>?_
 unfold rng1
 split
 ·next j =>
  by_cases h:-1000000000 ≤ j ∧ j ≤ 1000000000
  ·rw [if_pos h]
   obtain ⟨x,rfl,rx⟩:=rs.one
   cases rx
   exact Ans.ret (R:=ItOk K mg) g1.s (itr_ok 0 _) fun Q q=>⟨j,rfl,by omega,by omega,q⟩
  ·rw [if_neg h];trivial
 ·trivial
theorem ss_for {wi:TI} {mi:MI} {n:Nat} {t:TG} {g:MG} {u:TS} {m:MS} (hi:SI K mg E wi mi) (hg:SG K mg n t g) (hx:∀ d ρ c,g d ρ ≠ .ex c) (hb:SS K mg E u m):SS K mg E (tFor wi t u) (for_ mi g m):=by
 intro F0 H0 F H σ ρ rr
 refine (hi F0 H0 F H σ ρ rr).stm (w':=fun J H1 D=>∃ W:Nat → Nat → St → Hp → Prop,(∃ m,W 0 m σ H1) ∧ ∀ i m σ H,W i m σ H →
  (J.stop i H ∧ D.nx σ H) ∨ (J.go i H ∧ ∃ N:St → Hp → Prop,(∀ σ' H',N σ' H' → ∃ m',m' < m ∧ W (i + 1) m' σ' H') ∧ ∀ x H',J.yld i H x H' → t x σ H' fun σ2 H2=>u { D with nx:=N,ct:=N,bk:=D.nx } σ2 H2)) rr.g fun ds _ F1 H1 J g1 jo=>?_
 have r1:=rr.gr g1
 have key:∀ (D:Ends) (res:Res Fl),res ≠ .bad → (∀ ρ',res = .ok (.nx ρ') → ∀ F' H' σ',Same F1 F' → Rep K mg F0 H0 F' H' σ' ρ' → D.nx σ' H') → (∀ ρ',res = .ok (.bk ρ') → ∀ F' H' σ',Same F1 F' → Rep K mg F0 H0 F' H' σ' ρ' → D.bk σ' H') →
   (∀ ρ',res = .ok (.ct ρ') → ∀ F' H' σ',Same F1 F' → Rep K mg F0 H0 F' H' σ' ρ' → D.ct σ' H') → (∀ d,res = .ok (.rt d) → ∀ F' H' x,Gr F0 H0 F' H' → Rp K mg F' x d → D.rt x H') →
   (∀ c,res = .ex c → ∀ F' H' C,Gr F0 H0 F' H' → mg c = some (.ref C) → E (.ref C) none H') → forGo g m ds ρ = res →
   ∃ W:Nat → Nat → St → Hp → Prop,(∃ m,W 0 m σ H1) ∧ ∀ i m σ H,W i m σ H →
    (J.stop i H ∧ D.nx σ H) ∨ (J.go i H ∧ ∃ N:St → Hp → Prop,(∀ σ' H',N σ' H' → ∃ m',m' < m ∧ W (i + 1) m' σ' H') ∧ ∀ x H',J.yld i H x H' → t x σ H' fun σ2 H2=>u { D with nx:=N,ct:=N,bk:=D.nx } σ2 H2):=by
  intro D res hbad qn qb qc qr qe e0
  refine ⟨fun i k σ' H'=>k = ds.length - i ∧ i ≤ ds.length ∧ ∃ ρ' F',Same F1 F' ∧ Rep K mg F0 H0 F' H' σ' ρ' ∧ forGo g m (ds.drop i) ρ' = res,⟨ds.length,by simp,Nat.zero_le _,ρ,F1,Same.refl _,r1,e0⟩,?_⟩
  rintro i k σ' H' ⟨rfl,hi',ρ',F',s1,r',e⟩
  by_cases hlt:i < ds.length
  ·refine .inr ?_
   have hd:ds[i]? = some ds[i]:=List.getElem?_eq_getElem hlt
   obtain ⟨go,yl⟩:=(jo F' H' s1 r'.ss i).1 _ hd
   rw [List.drop_eq_getElem_cons hlt] at e
   refine ⟨go,fun σ2 H2=>∃ ρ2 F2,Same F1 F2 ∧ Rep K mg F0 H0 F2 H2 σ2 ρ2 ∧ forGo g m (ds.drop (i + 1)) ρ2 = res,fun σ2 H2 ⟨ρ2,F2,s2,r2,e2⟩=>⟨ds.length - (i + 1),by omega,rfl,hlt,ρ2,F2,s2,r2,e2⟩,fun x H2 y=>?_⟩
   obtain ⟨F2,g2,rx⟩:=yl x H2 y
   have r2:=r'.gr g2
   have hG:=hg F0 H0 F2 H2 σ' ρ' x _ r2 rx
   have e':(g ds[i] ρ').bind (fun ρ1=>(m ρ1).bind (turn (forGo g m (ds.drop (i + 1))))) = res:=e
   cases eg:g ds[i] ρ' with
   | ok ρ1 =>
    rw [eg] at e' hG
    refine hG _ fun F3 H3 σ3 s3 r3 _=>?_
    have hB:=hb F0 H0 F3 H3 σ3 ρ1 r3
    have sF:Same F1 F3:=s1.trans (g2.f.trans s3)
    have e2:(m ρ1).bind (turn (forGo g m (ds.drop (i + 1)))) = res:=e'
    cases em:m ρ1 with
    | ok f =>
     rw [em] at e2 hB
     cases f with
     | nx ρ2=>exact hB _ fun F4 H4 σ4 s4 r4=>⟨ρ2,F4,sF.trans s4,r4,e2⟩
     | ct ρ2=>exact hB _ fun F4 H4 σ4 s4 r4=>⟨ρ2,F4,sF.trans s4,r4,e2⟩
     | bk ρ2=>exact hB _ fun F4 H4 σ4 s4 r4=>qn ρ2 e2.symm F4 H4 σ4 (sF.trans s4) r4
     | rt d=>exact hB _ fun F4 H4 y g4 ry=>qr d e2.symm F4 H4 y g4 ry
    | ex c =>
     rw [em] at e2 hB
     exact hB _ fun F4 H4 C g4 hc=>qe c e2.symm F4 H4 C g4 hc
    | bad=>rw [em] at e2;exact absurd e2.symm hbad
   | ex c=>exact absurd eg (hx _ _ c)
   | bad=>rw [eg] at e';exact absurd e'.symm hbad
  ·have hi2:i = ds.length:=by omega
   subst hi2
   rw [List.drop_eq_nil_of_le (Nat.le_refl _)] at e
   exact .inl ⟨(jo F' H' s1 r'.ss _).2 (Nat.le_refl _),qn ρ' e.symm F' H' σ' s1 r'⟩
 cases e:forGo g m ds ρ with
 | ok f =>
  cases f with
  | nx ρ2=>exact fun D q=>key D _ (fun z=>by cases z) (fun _ z=>by cases z;exact q) (fun _ z=>by cases z) (fun _ z=>by cases z) (fun _ z=>by cases z) (fun _ z=>by cases z) e
  | bk ρ2=>exact fun D q=>key D _ (fun z=>by cases z) (fun _ z=>by cases z) (fun _ z=>by cases z;exact q) (fun _ z=>by cases z) (fun _ z=>by cases z) (fun _ z=>by cases z) e
  | ct ρ2=>exact fun D q=>key D _ (fun z=>by cases z) (fun _ z=>by cases z) (fun _ z=>by cases z) (fun _ z=>by cases z;exact q) (fun _ z=>by cases z) (fun _ z=>by cases z) e
  | rt d=>exact fun D q=>key D _ (fun z=>by cases z) (fun _ z=>by cases z) (fun _ z=>by cases z) (fun _ z=>by cases z) (fun _ z=>by cases z;exact q) (fun _ z=>by cases z) e
 | ex c=>exact fun D q=>key D _ (fun z=>by cases z) (fun _ z=>by cases z) (fun _ z=>by cases z) (fun _ z=>by cases z) (fun _ z=>by cases z) (fun _ z=>by cases z;exact q) e
 | bad=>trivial
theorem ss_while {n:Ev → Nat} {sc:TT} {nc:MB} {u:TS} {m:MS} (hc:STt K mg E sc nc) (hb:SS K mg E u m):SS K mg E (tWhile sc u) (whl n nc m):=by
 intro F0 H0 F H σ ρ rr
 have key:∀ (D:Ends) (res:Res Fl),res ≠ .bad → (∀ ρ',res = .ok (.nx ρ') → ∀ F' H' σ',Same F F' → Rep K mg F0 H0 F' H' σ' ρ' → D.nx σ' H') → (∀ ρ',res = .ok (.bk ρ') → ∀ F' H' σ',Same F F' → Rep K mg F0 H0 F' H' σ' ρ' → D.bk σ' H') →
   (∀ ρ',res = .ok (.ct ρ') → ∀ F' H' σ',Same F F' → Rep K mg F0 H0 F' H' σ' ρ' → D.ct σ' H') → (∀ d,res = .ok (.rt d) → ∀ F' H' x,Gr F0 H0 F' H' → Rp K mg F' x d → D.rt x H') →
   (∀ c,res = .ex c → ∀ F' H' C,Gr F0 H0 F' H' → mg c = some (.ref C) → E (.ref C) none H') → whGo nc m (n ρ) ρ = res → tWhile sc u D σ H:=by
  intro D res hbad qn qb qc qr qe e0
  refine ⟨fun k σ' H'=>∃ ρ' F',Same F F' ∧ Rep K mg F0 H0 F' H' σ' ρ' ∧ whGo nc m k ρ' = res,⟨n ρ,ρ,F,Same.refl _,rr,e0⟩,?_⟩
  rintro k σ' H' ⟨ρ',F',s1,r',e⟩
  cases k with
  | zero=>exact absurd e.symm hbad
  | succ k =>
   have e':(nc ρ').bind (fun x=>if x = true then (m ρ').bind (turn (whGo nc m k)) else .ok (.nx ρ')) = res:=e
   have hC:=hc F0 H0 F' H' σ' ρ' r'
   cases ec:nc ρ' with
   | ok b =>
    rw [ec] at e' hC
    refine hC _ fun F2 H2 b' g2 eb=>?_
    cases (show b' = b from eb)
    have r2:=r'.gr g2
    cases b with
    | true =>
     rw [if_pos rfl]
     have hB:=hb F0 H0 F2 H2 σ' ρ' r2
     have e2:(m ρ').bind (turn (whGo nc m k)) = res:=e'
     refine ⟨fun σ3 H3=>∃ ρ3 F3,Same F F3 ∧ Rep K mg F0 H0 F3 H3 σ3 ρ3 ∧ whGo nc m k ρ3 = res,fun σ3 H3 h=>⟨k,Nat.lt_succ_self _,h⟩,?_⟩
     have sF:Same F F2:=s1.trans g2.f
     cases em:m ρ' with
     | ok f =>
      rw [em] at e2 hB
      cases f with
      | nx ρ2=>exact hB _ fun F4 H4 σ4 s4 r4=>⟨ρ2,F4,sF.trans s4,r4,e2⟩
      | ct ρ2=>exact hB _ fun F4 H4 σ4 s4 r4=>⟨ρ2,F4,sF.trans s4,r4,e2⟩
      | bk ρ2=>exact hB _ fun F4 H4 σ4 s4 r4=>qn ρ2 e2.symm F4 H4 σ4 (sF.trans s4) r4
      | rt d=>exact hB _ fun F4 H4 y g4 ry=>qr d e2.symm F4 H4 y g4 ry
     | ex c =>
      rw [em] at e2 hB
      exact hB _ fun F4 H4 C g4 hc=>qe c e2.symm F4 H4 C g4 hc
     | bad=>rw [em] at e2;exact absurd e2.symm hbad
    | false =>
     rw [if_neg Bool.false_ne_true]
     have e2:Res.ok (Fl.nx ρ') = res:=e'
     exact qn ρ' e2.symm F2 H2 σ' (s1.trans g2.f) r2
   | ex c =>
    rw [ec] at e' hC
    exact hC _ fun F4 H4 C g4 hc=>qe c e'.symm F4 H4 C (r'.g.trans g4) hc
   | bad=>rw [ec] at e';exact absurd e'.symm hbad
 unfold whl
 cases e:whGo nc m (n ρ) ρ with
 | ok f =>
  cases f with
  | nx ρ2=>exact fun D q=>key D _ (fun z=>by cases z) (fun _ z=>by cases z;exact q) (fun _ z=>by cases z) (fun _ z=>by cases z) (fun _ z=>by cases z) (fun _ z=>by cases z) e
  | bk ρ2=>exact fun D q=>key D _ (fun z=>by cases z) (fun _ z=>by cases z) (fun _ z=>by cases z;exact q) (fun _ z=>by cases z) (fun _ z=>by cases z) (fun _ z=>by cases z) e
  | ct ρ2=>exact fun D q=>key D _ (fun z=>by cases z) (fun _ z=>by cases z) (fun _ z=>by cases z) (fun _ z=>by cases z;exact q) (fun _ z=>by cases z) (fun _ z=>by cases z) e
  | rt d=>exact fun D q=>key D _ (fun z=>by cases z) (fun _ z=>by cases z) (fun _ z=>by cases z) (fun _ z=>by cases z) (fun _ z=>by cases z;exact q) (fun _ z=>by cases z) e
 | ex c=>exact fun D q=>key D _ (fun z=>by cases z) (fun _ z=>by cases z) (fun _ z=>by cases z) (fun _ z=>by cases z) (fun _ z=>by cases z) (fun _ z=>by cases z;exact q) e
 | bad=>trivial
end
end L2.Ds
namespace L2.Ds
open PySem PySem.Spec PyProof.Rows Dl
section
variable {K:PySem.W.Frag} {mg:Str → Option Value} {E:XK} {F0 H0 F H:Hp} {σ:St} {ρ:Ev}
theorem Rep.inner {own:List Str} {cap:List (Str × Nat)} {Fb Hb:Hp} (r:Rep K mg F0 H0 F H σ ρ) (gb:Gr Fb Hb F H):Rep K mg Fb Hb F H (st0 own σ cap) (noA own.length (capD ρ (cap.map (·.2)))):=by
 have key:∀ (i:Nat) (cl:Cl),(noA own.length (capD ρ (cap.map (·.2))))[i]? = some cl → cl = .no ∨ ∃ j p d,i = own.length + j ∧ cap[j]? = some p ∧ ρ[p.2]? = some (.im d) ∧ cl = .im d:=by
  intro i cl e
  rw [noA_eq,capD_map] at e
  by_cases hi:i < own.length
  ·rw [List.getElem?_append_left (by simpa using hi),List.getElem?_replicate,if_pos hi] at e
   cases e
   exact .inl rfl
  ·rw [List.getElem?_append_right (by simpa using hi),List.length_replicate] at e
   rw [List.map_map,List.getElem?_map] at e
   cases q:cap[i - own.length]? with
   | none=>rw [q] at e;cases e
   | some p =>
    rw [q] at e
    have e':imOf ρ[p.2]? = cl:=Option.some.inj e
    unfold imOf at e'
    split at e'
    ·next d h=>exact .inr ⟨i - own.length,p,d,by omega,q,h,e'.symm⟩
    ·exact .inl e'.symm
 refine ⟨gb,?_,fun i d e=>?_,fun i ds e=>?_,fun i j ds es a e=>?_⟩
 ·rw [noA_eq,capD_map]
  unfold st0 capt
  simp
 ·rcases key i _ e with z | ⟨j,p,d',rfl,hp,hρ,z⟩
  ·cases z
  ·cases z
   obtain ⟨x,hx,rx⟩:=r.im p.2 d hρ
   refine ⟨x,?_,rx⟩
   unfold st0 capt
   rw [List.getElem?_append_right (by simp),List.length_replicate,Nat.add_sub_cancel_left,List.getElem?_map,hp]
   show some ((σ[p.2]?).join) = _
   rw [hx];rfl
 ·rcases key i _ e with z | ⟨j,p,d',rfl,hp,hρ,z⟩ <;> cases z
 ·rcases key i _ e with z | ⟨j,p,d',rfl,hp,hρ,z⟩ <;> cases z
theorem st_drop {own:List Str} {cap:List (Str × Nat)}:(st0 own σ cap).drop own.length = capt σ cap:=by
 unfold st0
 rw [List.drop_append_of_le_length (by simp),List.drop_of_length_le (by simp)]
 rfl
theorem comp_ok {t:TG} {g:MG} {tt:TT} {nt:MB} {te:TE} {me:ME} {own:List Str} {cap:List (Str × Nat)} {J:It} {ds ys:List D} (r:Rep K mg F0 H0 F H σ ρ) (jo:ItOk K mg F J ds) (hg:SG K mg own.length t g) (ht:STt K mg E0 tt nt) (he:SE K mg E0 te me)
  (hl:ds.length ≤ LIM) (e0:Dl.compGo g nt me (noA own.length (capD ρ (cap.map (·.2)))) ds = .ok ys) (Q:VK) (q:∀ F' H' xs,Gr F H F' H' → Rps K mg F' xs ys → xs.length ≤ sizeLine → ∀ p,H' p = none → Q (.ref p) (upd H' p (.lst xs))) :
  compGoT J t tt te own cap σ Q H:=by
 refine ⟨fun i k acc H'=>k = ds.length - i ∧ i ≤ ds.length ∧ acc.length ≤ i ∧ ∃ F' zs rs,Gr F H F' H' ∧ Rps K mg F' acc zs ∧ Dl.compGo g nt me (noA own.length (capD ρ (cap.map (·.2)))) (ds.drop i) = .ok rs ∧ zs ++ rs = ys,
  ⟨ds.length,by simp,Nat.zero_le _,Nat.le_refl _,F,[],ys,.refl r.ss,.nil,e0,rfl⟩,?_⟩
 rintro i k acc H' ⟨rfl,hi,ha,F',zs,rs,g1,r1,e1,e2⟩
 have la:acc.length ≤ LIM:=Nat.le_trans ha (Nat.le_trans hi hl)
 refine ⟨lim_le la,?_⟩
 by_cases hlt:i < ds.length
 ·refine .inr ?_
  have hd:ds[i]? = some ds[i]:=List.getElem?_eq_getElem hlt
  obtain ⟨go,yl⟩:=(jo F' H' g1.f g1.s i).1 _ hd
  rw [List.drop_eq_getElem_cons hlt] at e1
  refine ⟨go,fun x H2 y=>?_⟩
  obtain ⟨F2,g2,rx⟩:=yl x H2 y
  have rr:=(r.gr (g1.trans g2)).inner (own:=own) (cap:=cap) (g1.trans g2)
  have hG:=hg F H F2 H2 _ _ x _ rr rx
  have e':(g ds[i] (noA own.length (capD ρ (cap.map (·.2))))).bind (fun ρ1=>(nt ρ1).bind fun b=>if b = true then (me ρ1).bind fun y=>(Dl.compGo g nt me (noA own.length (capD ρ (cap.map (·.2)))) (ds.drop (i + 1))).bind fun ys=>.ok (y :: ys) else Dl.compGo g nt me (noA own.length (capD ρ (cap.map (·.2)))) (ds.drop (i + 1))) = .ok rs:=e1
  cases eg:g ds[i] (noA own.length (capD ρ (cap.map (·.2)))) with
  | ok ρ1 =>
   rw [eg] at e' hG
   refine hG _ fun F3 H3 σ3 s3 r3 d3=>⟨d3.trans st_drop,?_⟩
   have hT:=ht F H F3 H3 σ3 ρ1 r3
   have sF:Same F' F3:=g2.f.trans s3
   have e3:(nt ρ1).bind (fun b=>if b = true then (me ρ1).bind fun y=>(Dl.compGo g nt me (noA own.length (capD ρ (cap.map (·.2)))) (ds.drop (i + 1))).bind fun ys=>.ok (y :: ys) else Dl.compGo g nt me (noA own.length (capD ρ (cap.map (·.2)))) (ds.drop (i + 1))) = .ok rs:=e'
   cases et:nt ρ1 with
   | ok b =>
    rw [et] at e3 hT
    refine hT _ fun F4 H4 b' g4 eb=>?_
    cases (show b' = b from eb)
    cases b with
    | true =>
     rw [if_pos rfl]
     have e4:(me ρ1).bind (fun y=>(Dl.compGo g nt me (noA own.length (capD ρ (cap.map (·.2)))) (ds.drop (i + 1))).bind fun ys=>.ok (y :: ys)) = .ok rs:=e3
     have hE:=he F H F4 H4 σ3 ρ1 (r3.gr g4)
     cases em:me ρ1 with
     | ok y' =>
      rw [em] at e4 hE
      refine hE _ fun F5 H5 u g5 ru=>⟨Nat.lt_of_le_of_lt la (by decide),ds.length - (i + 1),by omega,rfl,hlt,by rw [List.length_append];show acc.length + 1 ≤ i + 1;omega,?_⟩
      have e5:(Dl.compGo g nt me (noA own.length (capD ρ (cap.map (·.2)))) (ds.drop (i + 1))).bind (fun ys=>.ok (y' :: ys)) = .ok rs:=e4
      cases ec:Dl.compGo g nt me (noA own.length (capD ρ (cap.map (·.2)))) (ds.drop (i + 1)) with
      | ok rs' =>
       rw [ec] at e5
       have e6:Res.ok (y' :: rs') = .ok rs:=e5
       cases e6
       exact ⟨F5,zs ++ [y'],rs',r3.g.trans (g4.trans g5),Rps.app (.cons ru .nil) (r1.same (sF.trans (g4.f.trans g5.f))),rfl,by rw [List.append_assoc];exact e2⟩
      | ex c=>rw [ec] at e5;cases e5
      | bad=>rw [ec] at e5;cases e5
     | ex c=>rw [em] at e4;cases e4
     | bad=>rw [em] at e4;cases e4
    | false =>
     rw [if_neg Bool.false_ne_true]
     have e4:Dl.compGo g nt me (noA own.length (capD ρ (cap.map (·.2)))) (ds.drop (i + 1)) = .ok rs:=e3
     exact ⟨ds.length - (i + 1),by omega,rfl,hlt,by omega,F4,zs,rs,r3.g.trans g4,r1.same (sF.trans g4.f),e4,e2⟩
   | ex c=>rw [et] at e3;cases e3
   | bad=>rw [et] at e3;cases e3
  | ex c=>rw [eg] at e';cases e'
  | bad=>rw [eg] at e';cases e'
 ·have hi2:i = ds.length:=by omega
  subst hi2
  rw [List.drop_eq_nil_of_le (Nat.le_refl _)] at e1
  cases e1
  rw [List.append_nil] at e2
  subst e2
  exact .inl ⟨(jo F' H' g1.f g1.s _).2 (Nat.le_refl _),q F' H' acc g1 r1 (lim_le la)⟩
theorem se_comp {wi:TI} {mi:MI} {t:Fam TG} {g:MG} {tt:Fam TT} {nt:MB} {te:Fam TE} {me:ME} {own:List Str} {cap:List (Str × Nat)} (hi:SI K mg E wi mi) (hg:∀ C s H fp pn,SG K mg own.length (t C s H fp pn) g) (ht:∀ C s H fp pn,STt K mg E0 (tt C s H fp pn) nt) (he:∀ C s H fp pn,SE K mg E0 (te C s H fp pn) me) :
  SE K mg E (tCompT wi t tt te own cap) (comp mi own.length (cap.map (·.2)) g nt me):=by
 intro F0 H0 F H σ ρ rr
 refine (hi F0 H0 F H σ ρ rr).bind (w':=fun J H1 Q=>∀ C s H2 fp pn,compGoT J (t C s H2 fp pn) (tt C s H2 fp pn) (te C s H2 fp pn) own cap σ Q H1) fun F1 H1 J ds g1 jo=>?_
 by_cases hl:ds.length ≤ LIM
 ·rw [if_pos hl]
  cases e:Dl.compGo g nt me (noA own.length (capD ρ (cap.map (·.2)))) ds with
  | ok ys=>exact fun Q q C s H2 fp pn=>comp_ok (rr.gr g1) jo (hg C s H2 fp pn) (ht C s H2 fp pn) (he C s H2 fp pn) hl e Q fun F' H' xs g2 rs _ p hp=>q _ _ _ (g2.trans (.new g2.s hp _)) (.lst (SqL.of upd_same) (rs.same (same_new (g2.s.free hp) _)))
  | ex c=>trivial
  | bad=>trivial
 ·rw [if_neg hl];trivial
end
end L2.Ds
namespace L2.Ds
open PySem PySem.Spec PyProof.Rows Dl
structure DE (X:Cx) (E:XK) (e:Expr) (t:TE) (m:ME):Prop where
 p:PE X e t
 s:SE X.K X.mg E t m
structure DT (X:Cx) (E:XK) (e:Expr) (t:TT) (m:MB):Prop where
 p:PT X e t
 s:STt X.K X.mg E t m
structure DW (X:Cx) (E:XK) (e:Expr) (t:TT) (m:MB):Prop where
 p:PW X e t
 s:STt X.K X.mg E t m
structure DA (X:Cx) (E:XK) (n:Nat) (es:List Expr) (t:TA) (m:MA):Prop where
 p:PA X es t
 s:SA X.K X.mg E t m
 n:SAn n m
structure DO (X:Cx) (E:XK) (e:Option Expr) (t:TO) (m:Ev → Res (Option Int)):Prop where
 p:PO X e t
 s:SO X.K X.mg E t m
structure DS (X:Cx) (E:XK) (st:Stmt) (t:TS) (m:MS):Prop where
 p:PS X st t
 s:SS X.K X.mg E t m
structure DSs (X:Cx) (E:XK) (st:List Stmt) (t:TS) (m:MS):Prop where
 p:PSs X st t
 s:SS X.K X.mg E t m
structure DG (X:Cx) (n:Nat) (e:Expr) (t:TG) (g:MG):Prop where
 p:PG X e t
 s:SG X.K X.mg n t g
 x:∀ d ρ c,g d ρ ≠ .ex c
structure DGs (X:Cx) (n:Nat) (es:List Expr) (t:TGs) (g:MGs):Prop where
 p:PGs X es t
 s:SGs X.K X.mg n t g
 x:∀ d ρ c,g d ρ ≠ .ex c
structure DI (X:Cx) (E:XK) (tg e:Expr) (t:TI) (m:MI):Prop where
 p:PI X tg e t
 s:SI X.K X.mg E t m
section
variable {X:Cx} {E:XK} {a b e c':Expr} {es:List Expr} {ta tb tc te:TE} {ma mb mc me:ME} {sa sb:TT} {na nb:MB} {t:TA} {m:MA} {pos:Pos} {n:Nat}
theorem d_v (i:Nat) {x:Str} (hN:X.N[i]? = some x:=by rfl) (hv:Vis X.env.scope x:=by first | exact Or.inl rfl | exact Or.inr (Or.inl rfl) | exact Or.inr (Or.inr rfl)) (hd:(x == ("__debug__" : Str)) = false:=by decide)
  (hcd:(x == ("__classdict__" : Str)) = false:=by decide):DE X E (.Name x pos) (tVar i) (v i):=⟨pe_var hN hv hd hcd,se_v i⟩
theorem d_int {i j}:DE X E (.Constant (.int i) j pos) (tC (.int i)) (c (.int i)):=⟨pe_int,se_c fun _=>.int _⟩
theorem d_bl {i j}:DE X E (.Constant (.bool i) j pos) (tC (.bl i)) (c (.bl i)):=⟨pe_bl,se_c fun _=>.bl _⟩
theorem d_non {j}:DE X E (.Constant .none j pos) (tC .non) (c .non):=⟨pe_non,se_c fun _=>.non⟩
theorem d_str {i j}:DE X E (.Constant (.str i) j pos) (tC (.str i)) (c (.str i)):=⟨pe_str,se_c fun _=>.str _⟩
theorem d_ty {k:String} {x:Str} (hg:Gl X x) (hm:X.mg x = none) (hv:bootBuiltins x = some (.type k)) (hn:x ≠ "__name__" := by decide) (hd:(x == ("__debug__" : Str)) = false:=by decide):DE X E (.Name x pos) (tC (.ty k)) (c (.ty k)) :=
 ⟨pe_tyn hg hm hv hn hd,se_c fun _=>.ty _⟩
theorem d_gi {x:Str} {i:Int} {tk:Tok} (hg:Gl X x) (hm:X.mg x = some (.int i tk)) (hd:(x == ("__debug__" : Str)) = false:=by decide):DE X E (.Name x pos) (tC (.int i)) (c (.int i)):=⟨pe_glob hg hm ⟨_,rfl⟩ hd,se_c fun _=>.int _⟩
theorem d_bin {op:Operator} {r:R2} {f:D → D → Res D} (ho:OpR X (binaryOp op) r) (hf:OpD X.K X.mg r f) (ha:DE X E a ta ma) (hb:DE X E b tb mb):DE X E (.BinOp a op b pos) (tOp r ta tb) (o2 f ma mb):=⟨pe_op ho ha.p hb.p,se_op hf ha.s hb.s⟩
theorem d_cmp {op:CmpOp} {r:R2} {f:D → D → Res D} (ho:OpR X (compareOp op) r) (hf:OpD X.K X.mg r f) (ha:DE X E a ta ma) (hb:DE X E b tb mb) (hm:behindInMarks op b = false):DE X E (.Compare a [op] [b] pos) (tOp r ta tb) (o2 f ma mb):=⟨pe_cmpR ho ha.p hb.p hm,se_op hf ha.s hb.s⟩
theorem dt_cmp {op:CmpOp} {r:R2} {f:D → D → Res D} (ho:OpR X (compareOp op) r) (hf:OpD X.K X.mg r f) (ha:DE X E a ta ma) (hb:DE X E b tb mb) (hm:behindInMarks op b = false):DT X E (.Compare a [op] [b] pos) (tTest (tOp r ta tb)) (trb (o2 f ma mb)):=⟨pt_cmpR ho ha.p hb.p hm,st_test (se_op hf ha.s hb.s)⟩
theorem OpR.or {f:Value → Value → Sem Value} {r r':R2} (h:OpR X f r) (h':OpR X f r'):OpR X f (fun x y H Q=>r x y H Q ∨ r' x y H Q):=by
 intro pins s σ H x y v u Q I rx ry q
 rcases q with q | q
 ·exact h pins s σ H x y v u Q I rx ry q
 ·exact h' pins s σ H x y v u Q I rx ry q
theorem op_catL:OpR X (binaryOp .Add) (rCatL X.K):=by
 intro pins s σ H x y v u Q I rx ry h
 obtain ⟨l,b,xs,zs,rfl,rfl,hH,hB,hz,q⟩:=h
 cases rx
 cases ry
 exact op_catL0 I hH hB hz q
theorem op_catU:OpR X (binaryOp .Add) (rCatU X.K):=by
 intro pins s σ H x y v u Q I rx ry h
 obtain ⟨a,b,xs,ys,rfl,rfl,ha,hb,hz,q0,q1,q2⟩:=h
 cases rx
 cases ry
 exact op_catU0 I ha hb hz q0 q1 q2
theorem op_addD:OpR X (binaryOp .Add) (rAddD X.K):=OpR.or op_add (OpR.or op_catL (OpR.or op_catU op_add_str))
theorem d_add (ha:DE X E a ta ma) (hb:DE X E b tb mb):DE X E (.BinOp a .Add b pos) (tOp (rAddD X.K) ta tb) (o2 dAdd ma mb):=d_bin op_addD opD_add ha hb
theorem d_sub (ha:DE X E a ta ma) (hb:DE X E b tb mb):DE X E (.BinOp a .Sub b pos) (tOp (rI0 fun i j=>V.int (i - j)) ta tb) (o2 dSub ma mb):=d_bin op_sub opD_sub ha hb
theorem mul_ok {a b:Int} (h:mulOk a b = true):IntMulOk a b:=by
 have h':(a.natAbs < 2 ^ 64 ∨ b.natAbs < 2 ^ 64) ∨ a.natAbs.log2 + b.natAbs.log2 < 100000000:=by simpa [mulOk] using h
 rcases h' with (h' | h') | h'
 ·exact .of_left (intBits_le_iff.mpr h')
 ·exact .of_right (intBits_le_iff.mpr h')
 ·have la:a.natAbs < 2 ^ (a.natAbs.log2 + 1):=Nat.lt_log2_self
  have lb:b.natAbs < 2 ^ (b.natAbs.log2 + 1):=Nat.lt_log2_self
  exact IntMulOk.of_le (intBits_le_iff.mpr la) (intBits_le_iff.mpr lb) (by omega)
theorem opD_mul {K:PySem.W.Frag} {mg:Str → Option Value}:OpD K mg (rI IntMulOk fun i j=>.int (i * j)) dMul:=opD_I fun a b=>by
 unfold iMul
 by_cases h:mulOk a b = true
 ·rw [if_pos h];exact .inl ⟨_,rfl,mul_ok h,fun _=>.int _⟩
 ·rw [if_neg h];exact .inr rfl
theorem d_mul (ha:DE X E a ta ma) (hb:DE X E b tb mb):DE X E (.BinOp a .Mult b pos) (tOp (rI IntMulOk fun i j=>V.int (i * j)) ta tb) (o2 dMul ma mb):=d_bin op_mulR opD_mul ha hb
theorem d_mod (ha:DE X E a ta ma) (hb:DE X E b tb mb):DE X E (.BinOp a .Mod b pos) (tOp (rI (fun _ j=>j ≠ 0) fun i j=>V.int (i.fmod j)) ta tb) (o2 dMod ma mb):=d_bin op_modN opD_mod ha hb
theorem d_div (ha:DE X E a ta ma) (hb:DE X E b tb mb):DE X E (.BinOp a .FloorDiv b pos) (tOp (rI CDivG fun i j=>V.int (i.fdiv j)) ta tb) (o2 dDiv ma mb):=d_bin op_fdivG opD_div ha hb
theorem d_pow (ha:DE X E a ta ma) (hb:DE X E b tb mb):DE X E (.BinOp a .Pow b pos) (tOp (rI CPow fun i j=>V.int (i ^ j.toNat)) ta tb) (o2 dPow ma mb):=d_bin op_pow opD_pow ha hb
theorem d_shl (ha:DE X E a ta ma) (hb:DE X E b tb mb):DE X E (.BinOp a .LShift b pos) (tOp (rI CPow fun i j=>V.int (i * 2 ^ j.toNat)) ta tb) (o2 dShl ma mb):=d_bin op_shl opD_shl ha hb
theorem d_shr (ha:DE X E a ta ma) (hb:DE X E b tb mb):DE X E (.BinOp a .RShift b pos) (tOp (rI (fun _ j=>0 ≤ j) fun i j=>V.int (i / 2 ^ j.toNat)) ta tb) (o2 dShr ma mb):=d_bin op_shr opD_shr ha hb
theorem d_neg (ha:DE X E a ta ma):DE X E (.UnaryOp .USub a pos) (tUn (rU fun i=>V.int (-i)) ta) (o1 dNeg ma):=⟨pe_un un_neg ha.p,se_un (unD_neg fun _ _ _ q=>⟨_,rfl,q⟩) ha.s⟩
theorem d_lt (ha:DE X E a ta ma) (hb:DE X E b tb mb):DE X E (.Compare a [.Lt] [b] pos) (tOp (rI0 fun i j=>V.bl (decide (i < j))) ta tb) (o2 dLt ma mb):=d_cmp op_lt opD_lt ha hb (nomark _)
theorem d_ge (ha:DE X E a ta ma) (hb:DE X E b tb mb):DE X E (.Compare a [.GtE] [b] pos) (tOp (rI0 fun i j=>V.bl (decide (j ≤ i))) ta tb) (o2 dGe ma mb):=d_cmp op_ge opD_ge ha hb (nomark _)
theorem dt_lt (ha:DE X E a ta ma) (hb:DE X E b tb mb):DT X E (.Compare a [.Lt] [b] pos) (tTest (tOp (rI0 fun i j=>V.bl (decide (i < j))) ta tb)) (trb (o2 dLt ma mb)):=dt_cmp op_lt opD_lt ha hb (nomark _)
theorem dt_le (ha:DE X E a ta ma) (hb:DE X E b tb mb):DT X E (.Compare a [.LtE] [b] pos) (tTest (tOp (rI0 fun i j=>V.bl (decide (i ≤ j))) ta tb)) (trb (o2 dLe ma mb)):=dt_cmp op_le opD_le ha hb (nomark _)
theorem dt_gt (ha:DE X E a ta ma) (hb:DE X E b tb mb):DT X E (.Compare a [.Gt] [b] pos) (tTest (tOp (rI0 fun i j=>V.bl (decide (j < i))) ta tb)) (trb (o2 dGt ma mb)):=dt_cmp op_gt opD_gt ha hb (nomark _)
theorem dt_ge (ha:DE X E a ta ma) (hb:DE X E b tb mb):DT X E (.Compare a [.GtE] [b] pos) (tTest (tOp (rI0 fun i j=>V.bl (decide (j ≤ i))) ta tb)) (trb (o2 dGe ma mb)):=dt_cmp op_ge opD_ge ha hb (nomark _)
mutual
def pyD:D → PyData
 | .non=>.none
 | .bl b=>.bool b
 | .int i=>.int i
 | .str x=>.str x
 | .tup xs=>.tuple (pyDs xs)
 | .lst xs=>.list (pyDs xs)
 | _=>.none
def pyDs:List D → List PyData
 | []=>[]
 | x :: r=>pyD x :: pyDs r
end
mutual
theorem eqD_py:∀ x y:D,∀ k l,Dl.plain k x = true → Dl.plain l y = true → eqD x y = PyData.eqv (pyD x) (pyD y)
 | .non,y,_,_,_,hy=>by cases y <;> first | rfl | (simp [Dl.plain] at hy)
 | .bl _,y,_,_,_,hy=>by cases y <;> first | rfl | (simp [Dl.plain] at hy)
 | .int _,y,_,_,_,hy=>by cases y <;> first | rfl | (simp [Dl.plain] at hy)
 | .str _,y,_,_,_,hy=>by cases y <;> first | rfl | (simp [Dl.plain] at hy)
 | .tup xs,y,k,l,hx,hy=>by
  cases y <;> first | rfl | (simp [Dl.plain] at hy;done) | skip
  rename_i ys
  cases k with
  | zero=>simp [Dl.plain] at hx
  | succ k =>
   cases l with
   | zero=>simp [Dl.plain] at hy
   | succ l=>exact eqDs_py xs ys k l (by simpa [Dl.plain] using hx) (by simpa [Dl.plain] using hy)
 | .lst xs,y,k,l,hx,hy=>by
  cases y <;> first | rfl | (simp [Dl.plain] at hy;done) | skip
  rename_i ys
  cases k with
  | zero=>simp [Dl.plain] at hx
  | succ k =>
   cases l with
   | zero=>simp [Dl.plain] at hy
   | succ l=>exact eqDs_py xs ys k l (by simpa [Dl.plain] using hx) (by simpa [Dl.plain] using hy)
 | .ty _,_,k,_,hx,_=>by cases k <;> simp [Dl.plain] at hx
 | .cls _,_,k,_,hx,_=>by cases k <;> simp [Dl.plain] at hx
 | .exc _,_,k,_,hx,_=>by cases k <;> simp [Dl.plain] at hx
 | .ins _ _ _,_,k,_,hx,_=>by cases k <;> simp [Dl.plain] at hx
theorem eqDs_py:∀ xs ys:List D,∀ k l,Dl.plains k xs = true → Dl.plains l ys = true → eqDs xs ys = PyData.eqvAll (pyDs xs) (pyDs ys)
 | [],[],_,_,_,_=>rfl
 | [],_ :: _,_,_,_,_=>rfl
 | _ :: _,[],_,_,_,_=>rfl
 | x :: xs,y :: ys,k,l,hx,hy=>by
  have h1:Dl.plain k x = true ∧ Dl.plains k xs = true:=by simpa [Dl.plains] using hx
  have h2:Dl.plain l y = true ∧ Dl.plains l ys = true:=by simpa [Dl.plains] using hy
  show (eqD x y && eqDs xs ys) = (PyData.eqv (pyD x) (pyD y) && PyData.eqvAll (pyDs xs) (pyDs ys))
  rw [eqD_py x y k l h1.1 h2.1,eqDs_py xs ys k l h1.2 h2.2]
end
mutual
theorem plain_py:∀ (x:D) (k:Nat),Dl.plain k x = true → (pyD x).canLay0 = true ∧ (pyD x).depth ≤ k
 | .non,_,_=>⟨rfl,Nat.zero_le _⟩
 | .bl _,_,_=>⟨rfl,Nat.zero_le _⟩
 | .int _,_,_=>⟨rfl,Nat.zero_le _⟩
 | .str x,_,h=>⟨by simpa [Dl.plain,pyD,PyData.canLay0,PyData.strOk] using h,Nat.zero_le _⟩
 | .tup xs,0,h=>by simp [Dl.plain] at h
 | .lst xs,0,h=>by simp [Dl.plain] at h
 | .tup xs,k + 1,h=>by
  obtain ⟨h1,h2⟩:=plains_py xs k (by simpa [Dl.plain] using h)
  exact ⟨h1,Nat.succ_le_succ h2⟩
 | .lst xs,k + 1,h=>by
  obtain ⟨h1,h2⟩:=plains_py xs k (by simpa [Dl.plain] using h)
  exact ⟨h1,Nat.succ_le_succ h2⟩
 | .ty _,k,h=>by cases k <;> simp [Dl.plain] at h
 | .cls _,k,h=>by cases k <;> simp [Dl.plain] at h
 | .exc _,k,h=>by cases k <;> simp [Dl.plain] at h
 | .ins _ _ _,k,h=>by cases k <;> simp [Dl.plain] at h
theorem plains_py:∀ (xs:List D) (k:Nat),Dl.plains k xs = true → PyData.canLayAll0 (pyDs xs) = true ∧ PyData.depthAll (pyDs xs) ≤ k
 | [],_,_=>⟨rfl,Nat.zero_le _⟩
 | x :: xs,k,h=>by
  have h':Dl.plain k x = true ∧ Dl.plains k xs = true:=by simpa [Dl.plains] using h
  obtain ⟨a1,a2⟩:=plain_py x k h'.1
  obtain ⟨b1,b2⟩:=plains_py xs k h'.2
  refine ⟨?_,Nat.max_le.mpr ⟨a2,b2⟩⟩
  show (PyData.canLay0 (pyD x) && PyData.canLayAll0 (pyDs xs)) = true
  rw [a1,b1];rfl
end
mutual
theorem rp_dv {K:PySem.W.Frag} {mg:Str → Option Value} {F:Hp}:∀ {x:V} {d:D} {k:Nat},Rp K mg F x d → Dl.plain k d = true → DV K F x (pyD d)
 | _,_,_,.non,_=>.non
 | _,_,_,.bl b,_=>.bl b
 | _,_,_,.int b,_=>.int b
 | _,_,_,.str b,_=>.str b
 | _,_,0,.tup h r,p=>by simp [Dl.plain] at p
 | _,_,0,.lst h r,p=>by simp [Dl.plain] at p
 | _,_,k + 1,.tup h r,p=>.tup h (rps_dvs r (by simpa [Dl.plain] using p))
 | _,_,k + 1,.lst h r,p=>.lst h (rps_dvs r (by simpa [Dl.plain] using p))
 | _,_,k,.ty _,p=>by cases k <;> simp [Dl.plain] at p
 | _,_,k,.cls _,p=>by cases k <;> simp [Dl.plain] at p
 | _,_,k,.exc _ _,p=>by cases k <;> simp [Dl.plain] at p
 | _,_,k,.ins _ _ _ _ _,p=>by cases k <;> simp [Dl.plain] at p
theorem rps_dvs {K:PySem.W.Frag} {mg:Str → Option Value} {F:Hp}:∀ {xs:List V} {ds:List D} {k:Nat},Rps K mg F xs ds → Dl.plains k ds = true → DVs K F xs (pyDs ds)
 | _,_,_,.nil,_=>.nil
 | _,_,k,.cons h r,p=>by
  have p':=(show Dl.plain k _ = true ∧ Dl.plains k _ = true by simpa [Dl.plains] using p)
  exact .cons (rp_dv h p'.1) (rps_dvs r p'.2)
end
mutual
theorem dv_same {K:PySem.W.Frag} {F H:Hp} (s:Same F H):∀ {x:V} {d:PyData},DV K F x d → DV K H x d
 | _,_,.non=>.non
 | _,_,.bl b=>.bl b
 | _,_,.int b=>.int b
 | _,_,.str b=>.str b
 | _,_,.tup h r=>.tup (seqT_same s h) (dvs_same s r)
 | _,_,.lst h r=>.lst (s.seq h) (dvs_same s r)
theorem dvs_same {K:PySem.W.Frag} {F H:Hp} (s:Same F H):∀ {xs:List V} {ds:List PyData},DVs K F xs ds → DVs K H xs ds
 | _,_,.nil=>.nil
 | _,_,.cons h r=>.cons (dv_same s h) (dvs_same s r)
end
theorem opD_eq {K:PySem.W.Frag} {mg:Str → Option Value}:OpD K mg (rEqD K id) dEq:=by
 intro E F H x y dx dy s rx ry
 unfold dEq
 by_cases h:(Dl.plain 50 dx && Dl.plain 50 dy) = true
 ·rw [if_pos h]
  have h':Dl.plain 50 dx = true ∧ Dl.plain 50 dy = true:=by simpa using h
  obtain ⟨a1,a2⟩:=plain_py dx 50 h'.1
  obtain ⟨b1,b2⟩:=plain_py dy 50 h'.2
  exact .ret s (.bl _) fun Q q=>⟨_,_,dv_same s (rp_dv rx h'.1),dv_same s (rp_dv ry h'.2),a1,b1,Nat.le_trans a2 (by decide),by rw [← eqD_py dx dy 50 50 h'.1 h'.2];exact q⟩
 ·rw [if_neg h];trivial
theorem opD_ne {K:PySem.W.Frag} {mg:Str → Option Value}:OpD K mg (rEqD K not) dNe:=by
 intro E F H x y dx dy s rx ry
 unfold dNe
 by_cases h:(Dl.plain 50 dx && Dl.plain 50 dy) = true
 ·rw [if_pos h]
  have h':Dl.plain 50 dx = true ∧ Dl.plain 50 dy = true:=by simpa using h
  obtain ⟨a1,a2⟩:=plain_py dx 50 h'.1
  obtain ⟨b1,b2⟩:=plain_py dy 50 h'.2
  exact .ret s (.bl _) fun Q q=>⟨_,_,dv_same s (rp_dv rx h'.1),dv_same s (rp_dv ry h'.2),a1,b1,Nat.le_trans a2 (by decide),by rw [← eqD_py dx dy 50 50 h'.1 h'.2];exact q⟩
 ·rw [if_neg h];trivial
theorem d_eq {k:Nat} (hr:Room k X.A) (ha:DE X E a ta ma) (hb:DE X E b tb mb):DE X E (.Compare a [.Eq] [b] pos) (tOp (rEqD X.K id) ta tb) (o2 dEq ma mb):=d_cmp (op_eqD hr.units) opD_eq ha hb (nomark _)
theorem dt_eq {k:Nat} (hr:Room k X.A) (ha:DE X E a ta ma) (hb:DE X E b tb mb):DT X E (.Compare a [.Eq] [b] pos) (tTest (tOp (rEqD X.K id) ta tb)) (trb (o2 dEq ma mb)):=dt_cmp (op_eqD hr.units) opD_eq ha hb (nomark _)
theorem dt_ne {k:Nat} (hr:Room k X.A) (ha:DE X E a ta ma) (hb:DE X E b tb mb):DT X E (.Compare a [.NotEq] [b] pos) (tTest (tOp (rEqD X.K not) ta tb)) (trb (o2 dNe ma mb)):=dt_cmp (op_neD hr.units) opD_ne ha hb (nomark _)
theorem dt_isN {j pos'} (ha:DE X E a ta ma):DT X E (.Compare a [.Is] [.Constant .none j pos'] pos) (tTest (tOp (fun x y H Q=>y = V.non ∧ Q (V.bl (decide (x = V.non))) H) ta (tC .non))) (trb (o1 dIsN ma)):=⟨pt_cmpR op_isN ha.p pe_non (nomark _),st_test (se_isN ha.s)⟩
theorem dt_notN {j pos'} (ha:DE X E a ta ma):DT X E (.Compare a [.IsNot] [.Constant .none j pos'] pos) (tTest (tOp (fun x y H Q=>y = V.non ∧ Q (V.bl (!decide (x = V.non))) H) ta (tC .non))) (trb (o1 dNotN ma)):=⟨pt_cmpR op_notN ha.p pe_non (nomark _),st_test (se_notN ha.s)⟩
theorem d_ix (ha:DE X E a ta ma) (hb:DE X E b tb mb) (hs:PlainIx b:=by exact fun _ _=>rfl):DE X E (.Subscript a b pos) (tOp (rIxD X.K) ta tb) (o2 dIx ma mb):=⟨pe_ix (IxR.or ix_list ix_tup) ha.p hb.p hs,se_op opD_ix ha.s hb.s⟩
theorem dt_val (ha:DE X E a ta ma) (he:∀ whole,isTrue a X.env whole = (do let v ← whole;standAt a.pos;holding [v] (truthy v)):=by intro _;rfl):DT X E a (L2.tB ta) (trb ma):=⟨pt_val ha.p he,st_b ha.s⟩
theorem dw_and1 (ha:DT X E a sa na):DW X E (.BoolOp .And [a] pos) sa na:=⟨pw_and1 ha.p,ha.s⟩
theorem dw_or1 (ha:DT X E a sa na):DW X E (.BoolOp .Or [a] pos) sa na:=⟨pw_or1 ha.p,ha.s⟩
theorem dw_and {rest:List Expr} (ha:DT X E a sa na) (hb:DW X E (.BoolOp .And (b :: rest) pos) sb nb):DW X E (.BoolOp .And (a :: b :: rest) pos) (tAnd sa sb) (bAnd na nb):=⟨pw_and ha.p hb.p,st_and ha.s hb.s⟩
theorem dw_or {rest:List Expr} (ha:DT X E a sa na) (hb:DW X E (.BoolOp .Or (b :: rest) pos) sb nb):DW X E (.BoolOp .Or (a :: b :: rest) pos) (tOr sa sb) (bOr na nb):=⟨pw_or ha.p hb.p,st_or ha.s hb.s⟩
theorem DW.dt (h:DW X E a sa na):DT X E a sa na:=⟨h.p.pt,h.s⟩
theorem dt_not (ha:DT X E a sa na):DT X E (.UnaryOp .Not a pos) (tNot sa) (bNot na):=⟨pt_not ha.p,st_not ha.s⟩
theorem d_one {op} (ha:DE X E a ta ma):DE X E (.BoolOp op [a] pos) ta ma:=⟨pe_one ha.p,ha.s⟩
theorem d_and {rest:List Expr} (ha:DE X E a ta ma) (hb:DE X E (.BoolOp .And (b :: rest) pos) tb mb):DE X E (.BoolOp .And (a :: b :: rest) pos) (tAndV ta tb) (eAnd ma mb):=⟨pe_and ha.p hb.p,se_and ha.s hb.s⟩
theorem d_not (ha:DE X E a ta ma):DE X E (.UnaryOp .Not a pos) (tNotV ta) (eNot ma):=⟨pe_not ha.p,se_not ha.s⟩
theorem d_ife (hc:DT X E c' sa na) (ha:DE X E a ta ma) (hb:DE X E b tb mb):DE X E (.IfExp c' a b pos) (tIf sa ta tb) (ife na ma mb):=⟨pe_ifExp hc.p ha.p hb.p,se_ife hc.s ha.s hb.s⟩
theorem da_nil:DA X E 0 [] tNil anil:=⟨pa_nil,sa_nil,san_nil⟩
theorem da_cons (ha:DE X E e te me) (hr:DA X E n es t m) (hs:starEach (e :: es) X.env = (false,eval e X.env) :: starEach es X.env:=by rfl):DA X E (n + 1) (e :: es) (tCons te t) (acons me m):=⟨pa_cons ha.p hr.p hs,sa_cons ha.s hr.s,san_cons hr.n⟩
theorem d_tup {x1} (h:DA X E n es t m) (hn:n ≤ sizeLine:=by decide):DE X E (.Tuple es x1 pos) (tTup t) (mtp m):=⟨pe_tup h.p,se_tup h.s h.n hn⟩
theorem d_lst (h:DA X E n es t m) (hn:n ≤ sizeLine:=by decide):DE X E (.List es pos) (tLst t) (mls m):=⟨pe_lst h.p,se_lst h.s h.n hn⟩
theorem d_cb {id:String} {r:List V → Hp → VK → Prop} {f:List D → Res D} {x:Str} {p:Pos} (hc:CallR X (.builtin id) r) (hf:CallD X.K X.mg r f) (hg:Gl X x) (hm:X.mg x = none) (hv:bootBuiltins x = some (.builtin id)) (ha:DA X E n (e :: es) t m) (hn:x ≠ "__name__" := by decide) (hdb:(x == ("__debug__" : Str)) = false:=by decide)
  (he:starEach (e :: es) X.env = (false,eval e X.env) :: starEach es X.env:=by rfl) (hpl:(backTo pos (starEach es X.env)).any (·.1) = false:=by rfl):DE X E (.Call (.Name x p) (e :: es) [] pos) (tCB r t) (on f m):=⟨pe_callB hc hg hm hv ha.p hn hdb he hpl,se_cb hf ha.s⟩
theorem d_ct {T:String} {r:List V → Hp → VK → Prop} {f:List D → Res D} {x:Str} {p:Pos} (hc:CallR X (.type T) r) (hf:CallD X.K X.mg r f) (hg:Gl X x) (hm:X.mg x = none) (hv:bootBuiltins x = some (.type T)) (ha:DA X E n (e :: es) t m) (hn:x ≠ "__name__" := by decide) (hdb:(x == ("__debug__" : Str)) = false:=by decide)
  (he:starEach (e :: es) X.env = (false,eval e X.env) :: starEach es X.env:=by rfl) (hpl:(backTo pos (starEach es X.env)).any (·.1) = false:=by rfl):DE X E (.Call (.Name x p) (e :: es) [] pos) (tCB r t) (on f m):=⟨pe_callTy hc hg hm hv ha.p hn hdb he hpl,se_cb hf ha.s⟩
structure Cal (P:Program) (w:World) (K:PySem.W.Frag) (mg:Str → Option Value) (base:Heap) (n:Nat) (x:Str) (ps:List Str) (m:List D → Res D):Prop where
 ex:∃ (f:Addr) (fd:FuncData),FnOk P w K mg base (CXR P w) n f fd ps (spD K mg ps.length m) ∧ Binds K fd ps [] ∧ PySem.W.keepIn K (.ref f) = true ∧ mg x = some (.ref f)
theorem d_call {k l:Nat} {x:Str} {ps:List Str} {f:List D → Res D} {p:Pos} (C:Cal X.prog X.w X.K X.mg X.base k x ps f) (hr:Room l X.A) (hn:k ≤ l) (hg:Gl X x) (hx:Passes (CXR X.prog X.w) X E) (ha:DA X E n (e :: es) t m) (hps:ps.length = n:=by rfl)
  (hdb:(x == ("__debug__" : Str)) = false:=by decide) (he:starEach (e :: es) X.env = (false,eval e X.env) :: starEach es X.env:=by rfl) (hpl:(backTo pos (starEach es X.env)).any (·.1) = false:=by rfl) :
  DE X E (.Call (.Name x p) (e :: es) [] pos) (tCall (spD X.K X.mg ps.length f) [] E t) (on f m):=by
 obtain ⟨g,fd,F,b,kp,hm⟩:=C.ex
 exact ⟨pe_call F (hr.mono hn) hg hm kp b .nil hx ha.p hdb he hpl,by rw [hps];exact se_call ha.s ha.n⟩
theorem pass_c {N:List Str} {scope:Scope} {cl:List (Str × Addr)} {C:Addr} {s:Shared} {H:Hp} {fp:List Addr} {pn:List (Addr × Obj)}:Passes (CXR X.prog X.w) (cxComp X N scope cl C s H fp pn) E0:=by
 intro pins σ H s e s' I h
 obtain ⟨_,_,_,_,_,q⟩:=h
 exact q.elim
end
end L2.Ds
namespace L2.Ds
open PySem PySem.Spec PyProof.Rows Dl
section
variable {X:Cx} {E:XK} {a b e c' tg:Expr} {es:List Expr} {ta tb tc te:TE} {ma mb mc me:ME} {sa sb:TT} {na nb:MB} {t:TA} {m:MA} {pos:Pos} {n:Nat}
theorem sl_tupU:SlR X (rSlU X.K):=by
 intro pins s σ H x v vl vu lo hi sl Q I rx hs pl pu h
 obtain ⟨a,xs,rfl,hx,q1,q2⟩:=h
 by_cases hw:HT.sIx xs.length 0 lo = 0 ∧ HT.sIx xs.length xs.length hi = xs.length
 ·cases rx
  obtain ⟨its,r,ht,hz⟩:=I.tuple hx
  have hlen:its.toArray.size = xs.length:=by rw [List.size_toArray];exact r.length.symm
  exact ⟨"tuple", _,PyProof.Rows.slot_tuple_getitem.lookup,ht.typeIs,HT.getItem_tuple_whole ht hs pl pu (by rw [hlen];exact hw) ⟨.ref a,H,I,rfl,q1 hw⟩⟩
 ·exact sl_tup pins s σ H (.ref a) v vl vu lo hi sl Q I rx hs pl pu ⟨a,xs,rfl,hx,hw,q2 hw⟩
theorem do_none:DO X E none tNoPart pno:=⟨po_none,so_none⟩
theorem do_some (h:DE X E a ta ma):DO X E (some a) (tPart ta) (pso ma):=⟨po_some h.p,so_some h.s⟩
theorem d_cut {lo hi:Option Expr} {tl th:TO} {ml mh:Ev → Res (Option Int)} {p2:Pos} (ha:DE X E a ta ma) (hl:DO X E lo tl ml) (hh:DO X E hi th mh):DE X E (.Subscript a (.Slice lo hi none p2) pos) (tSl (rSlD X.K) ta tl th) (cut ma ml mh) :=
 ⟨pe_slice (SlR.or sl_list sl_tupU) ha.p hl.p hh.p,se_cut ha.s hl.s hh.s⟩
theorem kit_tab {K:PySem.W.Frag} {d:D} {tn n:String} (ht:tyName d = some tn) (hn:tyList.contains n = true):PySem.W.kitOne K (.type tn) (.type n) = some (isTy tn n):=by
 have hn':n = "int" ∨ n = "bool" ∨ n = "str" ∨ n = "tuple" ∨ n = "list" ∨ n = "dict" := by
  simpa [tyList] using hn
 have ht':tn = "NoneType" ∨ tn = "bool" ∨ tn = "int" ∨ tn = "str" ∨ tn = "tuple" ∨ tn = "list" := by
  cases d <;> simp [tyName] at ht <;> subst ht <;> simp
 rcases ht' with rfl | rfl | rfl | rfl | rfl | rfl <;> rcases hn' with rfl | rfl | rfl | rfl | rfl | rfl <;>
  first
  | exact kit_same K _
  | exact kit_ty K (by decide +kernel) (by decide +kernel) (by decide +kernel)
def rIsi (K:PySem.W.Frag):List V → Hp → VK → Prop:=fun xs H Q=>∃ x n tn b,xs = [x,.ty n] ∧ PySem.W.kitOne K (.type tn) (.type n) = some b ∧ Q (.bl b) H ∧
 ((x = .non ∧ tn = "NoneType") ∨ (∃ y,x = .bl y ∧ tn = "bool") ∨ (∃ y,x = .int y ∧ tn = "int") ∨ (∃ y,x = .str y ∧ tn = "str") ∨ (∃ a xs,x = .ref a ∧ SqT K H a xs ∧ tn = "tuple") ∨ (∃ a xs,x = .ref a ∧ SqL K H a xs ∧ tn = "list"))
theorem call_isiD:CallR X (.builtin "isinstance") (rIsi X.K):=by
 intro pins s σ H xs us Q I r h
 obtain ⟨x,n,tn,bb,rfl,e,q,h⟩:=h
 obtain ⟨u,w',rfl,r1,r2⟩:=vals2 r
 cases r2
 have fin:∀ tk,EP X pins σ Q (.bool bb) { s with toks:=tk }:=fun tk=>⟨.bl bb,H,I.tok _,rfl,q⟩
 rcases h with ⟨rfl,rfl⟩ | ⟨y,rfl,rfl⟩ | ⟨y,rfl,rfl⟩ | ⟨y,rfl,rfl⟩ | ⟨a,xs,rfl,hq,rfl⟩ | ⟨a,xs,rfl,hq,rfl⟩
 ·exact isinst_ok I r1 .non e fin
 ·exact isinst_ok I r1 (.bl y) e fin
 ·exact isinst_ok I r1 (.int y) e fin
 ·exact isinst_ok I r1 (.str y) e fin
 ·cases r1
  obtain ⟨its,_,⟨o,h1,h2,_⟩,_⟩:=I.tuple hq
  exact PySem.W.kia_one PySem.W.kitx_tuple I.kIn ⟨o,h1,h2⟩ e (fun z=>nomatch z) fin
 ·cases r1
  obtain ⟨its,_,⟨o,_,h1,h2,_⟩,_⟩:=I.list hq
  exact PySem.W.kia_one PySem.W.kitx_list I.kIn ⟨o,h1,h2⟩ e (fun z=>nomatch z) fin
theorem callD_isi {K:PySem.W.Frag} {mg:Str → Option Value}:CallD K mg (rIsi K) bIsi:=by
 intro E F H xs ds s r
 unfold bIsi
 split
 ·next d nm =>
  obtain ⟨x,y,rfl,rx,ry⟩:=r.two
  cases ry
  by_cases hn:tyList.contains nm = true
  ·rw [if_pos hn]
   cases e:tyName d with
   | none=>trivial
   | some tn =>
    have k:=kit_tab (K:=K) e hn
    show Ans mg E (Rp K mg) F H (.ok (.bl (isTy tn nm))) _
    refine .ret s (.bl _) fun Q q=>⟨x,nm,tn,_,rfl,k,q,?_⟩
    cases rx with
    | non=>cases e;exact .inl ⟨rfl,rfl⟩
    | bl y=>cases e;exact .inr (.inl ⟨y,rfl,rfl⟩)
    | int y=>cases e;exact .inr (.inr (.inl ⟨y,rfl,rfl⟩))
    | str y=>cases e;exact .inr (.inr (.inr (.inl ⟨y,rfl,rfl⟩)))
    | ty y=>cases e
    | cls y=>cases e
    | exc y h=>cases e
    | ins m h o q r=>cases e
    | tup h r=>cases e;exact .inr (.inr (.inr (.inr (.inl ⟨_,_,rfl,seqT_same s h,rfl⟩))))
    | lst h r=>cases e;exact .inr (.inr (.inr (.inr (.inr ⟨_,_,rfl,s.seq h,rfl⟩))))
  ·rw [if_neg hn];trivial
 ·trivial
theorem dg_name {i:Nat} {x:Str} (hN:X.N.Nodup) (hi:X.N[i]? = some x) (hx:Loc X.env.scope x) (hl:i < n) (hf:X.fn x = true ∨ X.env.scope.names.lookup x = some .local:=by first | exact .inl rfl | exact .inr rfl | assumption):DG X n (.Name x pos) (gName i) (gN i) :=
 ⟨pg_name hN hi hx hf,sg_name hl,fun _ _ _ h=>by cases h⟩
theorem dgs_nil:DGs X n [] gNil gs0:=⟨pgs_nil,sgs_nil,fun d ρ c h=>by
 unfold gs0 at h
 split at h <;> cases h⟩
theorem dgs_cons {t:TG} {u:TGs} {g:MG} {gs:MGs} (h1:DG X n e t g) (h2:DGs X n es u gs) (hs:(assignEach (e :: es) X.env).map (·.2) = assign e X.env :: (assignEach es X.env).map (·.2):=by rfl):DGs X n (e :: es) (gCons t u) (gs1 g gs) :=
 ⟨pgs_cons h1.p h2.p hs,sgs_cons h1.s h2.s,fun d ρ c h=>by
  unfold gs1 at h
  split at h
  ·next d' ds =>
   cases eg:g d' ρ with
   | ok ρ' =>
    rw [eg] at h
    exact h2.x ds ρ' c h
   | ex c'=>exact h1.x d' ρ c' eg
   | bad=>rw [eg] at h;cases h
  ·cases h⟩
theorem dg_tup {k:Nat} {u:TGs} {g:MGs} {j:Nat} (hc:X.calm = true) (h:DGs X n es u g) (hn:(assignEach es X.env).length = j:=by rfl) (hst:(assignEach es X.env).findIdx? (·.1) = none:=by rfl):DG X n (.Tuple es k pos) (gSeq X.K j u) (gU j g):=by
 refine ⟨?_,sg_seq h.s,fun d ρ c hh=>?_⟩
 ·intro pins s σ H v w Q I r hw
  rcases hw with hw | hw
  ·exact pg_tup hc h.p hn hst pins s σ H v w Q I r hw
  ·obtain ⟨a,xs,e1,hq,hl,hw⟩:=hw
   subst e1
   cases r
   obtain ⟨its,rv,ht,hz⟩:=I.list hq
   refine assign_Tuple_list (I.ok.hd hc) ht.isList (by simp [hn,← hl,rv.length]) hst fun h' hx=>?_
   have I1:Inv X pins σ H { s with heap:=h' }:=I.kept (t':=s.toks) fun b o e=>hx b o (Nat.ne_of_lt (Heap.lt_size e)) e
   exact h.p pins _ σ H xs _ Q I1 (by simpa using rv) hw
 ·unfold gU at hh
  cases ei:items d with
  | ok xs =>
   rw [ei] at hh
   have hh':(if xs.length = j then g xs ρ else .bad) = .ex c:=hh
   split at hh'
   ·exact h.x xs ρ c hh'
   ·cases hh'
  | ex c'=>unfold items at ei;split at ei <;> cases ei
  | bad=>rw [ei] at hh;cases hh
theorem di_seq (h:DE X E a ta ma):DI X E tg a (iSeq X.K ta) (iv ma):=by
 refine ⟨?_,si_seq h.s⟩
 intro pins s σ H R I hw
 refine thn (h.p pins s σ H _ I hw) fun v s1 ⟨x,H1,I1,r1,q1⟩=>?_
 obtain ⟨p,rfl,q1⟩:=q1
 cases r1
 rcases q1 with ⟨⟨xs,hq⟩,q⟩ | ⟨⟨xs,hq⟩,q⟩
 ·obtain ⟨its,rv,pl,hz⟩:=I1.list hq
  refine wpAny_pyIter_list pl.isList ?_
  refine ⟨s1.heap.objs.size,[s1.heap.objs.size],_,_,H1,rfl,I1.kept (t':=s1.toks) fun b o e=>Heap.get?_push_of_some _ e,turn_list p _,⟨_,Heap.get?_push_size _ rfl,rfl,rfl⟩,fun b hb=>?_,q⟩
  have e:b = s1.heap.objs.size:=by simpa using hb
  subst e
  exact I1.fpOk (Nat.le_refl _) (I1.hok.fresh (Nat.le_refl _))
 ·obtain ⟨its,rv,pl,hz⟩:=I1.tuple hq
  refine wpAny_pyIter_tuple (show s1.heap.IsTuple p its.toArray from pl) ?_
  refine ⟨s1.heap.objs.size,[s1.heap.objs.size],_,_,H1,rfl,I1.kept (t':=s1.toks) fun b o e=>Heap.get?_push_of_some _ e,turn_tuple p _,⟨_,Heap.get?_push_size _ rfl,rfl,rfl⟩,fun b hb=>?_,q⟩
  have e:b = s1.heap.objs.size:=by simpa using hb
  subst e
  exact I1.fpOk (Nat.le_refl _) (I1.hok.fresh (Nat.le_refl _))
theorem di_r1 {p:Pos} (hg:Gl X "range") (hm:X.mg "range" = none) (ha:DA X E n [a] t m) (hs:starEach [a] X.env = [(false,eval a X.env)]:=by rfl):DI X E tg (.Call (.Name "range" p) [a] [] pos) (iRng1 t) (r1 m):=⟨pi_range1 hg hm ha.p hs,si_r1 ha.s⟩
theorem numbered_get:∀ (ds:List D) (k i:Nat) (d:D),(Dl.numbered k ds)[i]? = some d → ∃ x,ds[i]? = some x ∧ d = .tup [.int (k + i:Nat),x]
 | [],_,_,_,h=>by simp [Dl.numbered] at h
 | x :: r,k,0,d,h=>by simp [Dl.numbered] at h;exact ⟨x,rfl,h.symm⟩
 | x :: r,k,i + 1,d,h=>by
  obtain ⟨y,h1,h2⟩:=numbered_get r (k + 1) i d (by simpa [Dl.numbered] using h)
  exact ⟨y,by simpa using h1,by rw [h2,Nat.add_right_comm,Nat.add_assoc]⟩
theorem numbered_len:∀ (ds:List D) (k:Nat),(Dl.numbered k ds).length = ds.length
 | [],_=>rfl
 | _ :: r,k=>congrArg (· + 1) (numbered_len r (k + 1))
theorem ite_ok {K:PySem.W.Frag} {mg:Str → Option Value} {F:Hp} {a:Addr} {xs:List V} {ds:List D} (h:SqL K F a xs) (r:Rps K mg F xs ds):ItOk K mg F (Ite K a) (Dl.numbered 0 ds):=by
 intro F' H' s1 s2 i
 have hq:SqL K H' a xs:=(s1.trans s2).seq h
 refine ⟨fun d e=>?_,fun hl=>⟨xs,hq,by rw [r.length];rw [numbered_len] at hl;exact hl⟩⟩
 obtain ⟨x',e',rfl⟩:=numbered_get ds 0 i d e
 obtain ⟨x,e1,rx⟩:=r.get e'
 refine ⟨⟨xs,x,hq,e1⟩,fun y H'' q=>?_⟩
 obtain ⟨T,p,hT,rfl,rfl,hp⟩:=q
 have e2:=hp xs hq
 rw [e1] at e2;cases e2
 refine ⟨_,.new s2 hT _,.tup (SqT.of upd_same) (.cons ?_ (.cons ((rx.same s1).same (same_new (s2.free hT) _)) .nil))⟩
 rw [Nat.zero_add];exact .int _
theorem sqB_same {K:PySem.W.Frag} {H H':Hp} {p:Bool} {a:Addr} {xs:List V} (e:Same H H') (h:SqB K p H a xs):SqB K p H' a xs:=by
 cases p
 ·exact e.seq h
 ·exact seqT_same e h
theorem seq_rp {K:PySem.W.Frag} {mg:Str → Option Value} {F:Hp} {x:V} {d:D} {ds:List D} (r:Rp K mg F x d) (e:seqD d = .ok ds):∃ p a xs,x = .ref a ∧ SqB K p F a xs ∧ Rps K mg F xs ds:=by
 cases r with
 | tup h q=>cases e;exact ⟨true,_,_,rfl,h,q⟩
 | lst h q=>cases e;exact ⟨false,_,_,rfl,h,q⟩
 | _=>cases e
theorem seq_ne {d:D} {c:Str}:seqD d ≠ .ex c:=by cases d <;> intro h <;> cases h
theorem di_enumerate {elts:List Expr} {x1:Nat} {tpos p:Pos} (hg:Gl X "enumerate") (hm:X.mg "enumerate" = none) (ha:DA X E n [a] t m) (hs:starEach [a] X.env = [(false,eval a X.env)]:=by rfl):DI X E (.Tuple elts x1 tpos) (.Call (.Name "enumerate" p) [a] [] pos) (iEnum X.K t) (iEnumerate m):=by
 refine ⟨pi_enum hg hm ha.p hs,?_⟩
 intro F0 H0 F H σ ρ rr
 refine (ha.s F0 H0 F H σ ρ rr).bind (w':=fun vs H1 R=>∃ a,vs = [V.ref a] ∧ (∃ xs,SqL X.K H1 a xs) ∧ R (Ite X.K a) H1) fun F1 H1 xs ds g1 rs=>?_
 unfold enum1
 split
 ·next d =>
  obtain ⟨x,rfl,rx⟩:=rs.one
  cases d with
  | lst ds =>
   cases rx with
   | lst h r=>exact Ans.ret (R:=ItOk X.K X.mg) g1.s (ite_ok h r) fun Q q=>⟨_,rfl,⟨_,g1.s.seq h⟩,q⟩
  | tup ds=>trivial
  | _=>trivial
 ·trivial
end
end L2.Ds
namespace L2.Ds
open PySem PySem.Spec PyProof.Rows Dl
structure DTs (X:Cx) (E:XK) (ts:List Expr) (t:TT) (m:MB):Prop where
 p:PTs X ts t
 s:STt X.K X.mg E t m
section
variable {X:Cx} {E:XK} {a b e c' tg iter elt:Expr} {es ts:List Expr} {ta tb tc te:TE} {ma mb mc me:ME} {sa sb:TT} {na nb:MB} {t:TA} {m:MA} {pos spos pos':Pos} {n i j:Nat} {x y:Str}
theorem st_yes {K:PySem.W.Frag} {mg:Str → Option Value} {E:XK}:STt K mg E tYes yes:=fun _ _ _ _ _ _ r=>Ans.ret (R:=RB) r.ss rfl fun _ q=>q
theorem dts_nil:DTs X E [] tYes yes:=⟨pts_nil,st_yes⟩
theorem dts_one (h:DT X E a sa na):DTs X E [a] sa na:=⟨pts_one h.p,h.s⟩
theorem d_comp {own:List Str} {cap:List (Str × Nat)} {scope:Scope} {cl:List (Str × Addr)} {wi:TI} {mi:MI} {g:Fam TG} {gm:MG} {tt:Fam TT} {tf:Fam TE} (hi:DI X E tg iter wi mi) (O:CompOk X own cap scope cl) (hc:X.calm = true)
  (hg:∀ C s H fp pn,DG (cxComp X (own ++ cap.map (·.1)) scope cl C s H fp pn) own.length tg (g C s H fp pn) gm) (ht:∀ C s H fp pn,DTs (cxComp X (own ++ cap.map (·.1)) scope cl C s H fp pn) E0 ts (tt C s H fp pn) na)
  (he:∀ C s H fp pn,DE (cxComp X (own ++ cap.map (·.1)) scope cl C s H fp pn) E0 elt (tf C s H fp pn) me) (hts:ts.length ≤ 1:=by decide) (hs:∀ x,foldedSetIterable iter X.env x = pure x:=by intro _;rfl) :
  DE X E (.ListComp elt [⟨tg,iter,ts,0⟩] scope pos) (tCompT wi g tt tf own cap) (comp mi own.length (cap.map (·.2)) gm na me) :=
 ⟨pe_comp hi.p O hc (fun C s H fp pn=>(hg C s H fp pn).p) (fun C s H fp pn=>(ht C s H fp pn).p) (fun C s H fp pn=>(he C s H fp pn).p) hts hs,
  se_comp hi.s (fun C s H fp pn=>(hg C s H fp pn).s) (fun C s H fp pn=>(ht C s H fp pn).s) (fun C s H fp pn=>(he C s H fp pn).s)⟩
theorem ds_setC {own:List Str} {cap:List (Str × Nat)} {scope:Scope} {cl:List (Str × Addr)} {wi:TI} {mi:MI} {g:Fam TG} {gm:MG} {tt:Fam TT} {tf:Fam TE} (hN:X.N.Nodup) (hix:X.N[i]? = some x) (hx:Loc X.env.scope x) (hi:DI X E tg iter wi mi) (O:CompOk X own cap scope cl) (hc:X.calm = true)
  (hg:∀ C s H fp pn,DG (cxComp X (own ++ cap.map (·.1)) scope cl C s H fp pn) own.length tg (g C s H fp pn) gm) (ht:∀ C s H fp pn,DTs (cxComp X (own ++ cap.map (·.1)) scope cl C s H fp pn) E0 ts (tt C s H fp pn) na)
  (he:∀ C s H fp pn,DE (cxComp X (own ++ cap.map (·.1)) scope cl C s H fp pn) E0 elt (tf C s H fp pn) me) (hts:ts.length ≤ 1:=by decide)
  (hsw:swapsWith (.ListComp elt [⟨tg,iter,ts,0⟩] scope pos) (some (.Name x pos')) spos.line X.env = pure true:=by rfl)
  (hs:∀ x,foldedSetIterable iter X.env x = pure x:=by intro _;rfl)
  (hf:X.fn x = true ∨ X.env.scope.names.lookup x = some .local:=by first | exact .inl rfl | exact .inr rfl | assumption) :
  DS X E (.Assign [.Name x pos'] (.ListComp elt [⟨tg,iter,ts,0⟩] scope pos) spos) (tAsg (tCompT wi g tt tf own cap) (gName i)) (st i (comp mi own.length (cap.map (·.2)) gm na me)) :=
 ⟨ps_setComp hN hix hx hi.p O hc (fun C s H fp pn=>(hg C s H fp pn).p) (fun C s H fp pn=>(ht C s H fp pn).p) (fun C s H fp pn=>(he C s H fp pn).p) hts hsw hs hf,
  ss_set (se_comp hi.s (fun C s H fp pn=>(hg C s H fp pn).s) (fun C s H fp pn=>(ht C s H fp pn).s) (fun C s H fp pn=>(he C s H fp pn).s))⟩
theorem ds_set (hN:X.N.Nodup) (hi:X.N[i]? = some x) (hx:Loc X.env.scope x) (he:DE X E e te me) (hs:swapsWith e (some (.Name x pos')) spos.line X.env = pure false:=by rfl) (hf:X.fn x = true ∨ X.env.scope.names.lookup x = some .local:=by first | exact .inl rfl | exact .inr rfl | assumption) :
  DS X E (.Assign [.Name x pos'] e spos) (tAsg te (gName i)) (st i me):=⟨ps_set hN hi hx he.p hs hf,ss_set he.s⟩
theorem ds_asg {g:TG} {gm:MG} (he:DE X E e te me) (hg:DG X 1000 tg g gm) (hs:swapsWithSole [tg] e spos.line X.env = pure false:=by rfl) (hw:swappedStores [tg] e X.env = pure none:=by rfl)
  (h1:(assignEach [tg] X.env).map (·.2) = [assign tg X.env]:=by rfl):DS X E (.Assign [tg] e spos) (tAsg te g) (asg gm me):=⟨ps_asg he.p hg.p hs hw h1,ss_asg he.s hg.s hg.x⟩
theorem ds_drp (he:DE X E e te me) (hs:swapsWith e none spos.line X.env = pure false:=by rfl):DS X E (.Expr e spos) (tDrop te) (drp me):=⟨ps_expr he.p hs,ss_drop he.s⟩
theorem ds_ret (he:DE X E e te me):DS X E (.Return (some e) spos) (tRet te) (ret me):=⟨ps_ret he.p,ss_ret he.s⟩
theorem ds_cnt:DS X E (.Continue spos) tCont cnt:=⟨ps_continue,ss_cnt⟩
theorem ds_frz {st:Stmt} {u:TS} {k:MS} (h:DS X E st u k):DS X E st u (frz i k):=⟨h.p,ss_frz h.s⟩
theorem dss_nil:DSs X E [] tNext nop:=⟨pss_nil,ss_nop⟩
theorem dss_one {st:Stmt} {u:TS} {k:MS} (h:DS X E st u k):DSs X E [st] u k:=⟨pss_one h.p,h.s⟩
theorem dss_cons {st:Stmt} {rest:List Stmt} {u u':TS} {k k':MS} (h:DS X E st u k) (h':DSs X E rest u' k'):DSs X E (st :: rest) (tSeq u u') (sq k k'):=⟨pss_cons h.p h'.p,ss_seq h.s h'.s⟩
theorem ds_if {as bs:List Stmt} {u u':TS} {k k':MS} (hc:DT X E c' sa na) (ha:DSs X E as u k) (hb:DSs X E bs u' k'):DS X E (.If c' as bs spos) (tIfS sa u u') (ifs na k k'):=⟨ps_if hc.p ha.p hb.p,ss_if hc.s ha.s hb.s⟩
theorem ds_for {body:List Stmt} {wi:TI} {mi:MI} {g:TG} {gm:MG} {u:TS} {k:MS} (hp:PassesOwn (model X.prog X.w) X.A X.env X.xe) (hc:X.calm = true) (hi:DI X E tg iter wi mi) (hg:DG X 1000 tg g gm) (hb:DSs X E body u k)
  (hs:∀ x,foldedSetIterable iter X.env x = pure x:=by intro _;rfl):DS X E (.For tg iter body [] spos) (tFor wi g u) (for_ mi gm k):=⟨ps_for hp hc hi.p hg.p hb.p hs,ss_for hi.s hg.s hg.x hb.s⟩
theorem ds_whl {body:List Stmt} {u:TS} {k:MS} {fu:Ev → Nat} (hp:PassesOwn (model X.prog X.w) X.A X.env X.xe) (hc:DT X E c' sa na) (hb:DSs X E body u k):DS X E (.While c' body [] spos) (tWhile sa u) (whl fu na k):=⟨ps_while hp hc.p hb.p,ss_while hc.s hb.s⟩
end
section
variable {P:Program} {w:World} {K:PySem.W.Frag} {mg:Str → Option Value} {base:Heap} {N ps:List Str} {qual x:Str} {scope:Scope} {f:Addr} {cd:Value} {A:Around} {outer:List Env} {s₀:Shared} {H₀:Hp} {E:XK} {t:TA} {m:MA} {n:Nat}
theorem ds_rse {C:Addr} {np cpos pos:Pos} {e:Expr} {es:List Expr} (hg:Gl (cxOf (CXR P w) P w K mg base N qual scope f cd A outer s₀ H₀ E) x) (hm:mg x = some (.ref C)) (hq:PySem.W.excIn K C veMro "ValueError.__new__" = true)
  (ha:DA (cxOf (CXR P w) P w K mg base N qual scope f cd A outer s₀ H₀ E) E n (e :: es) t m) (hn:n ≤ 1000:=by decide) (hd:(x == ("__debug__" : Str)) = false:=by decide)
  (he:starEach (e :: es) (cxOf (CXR P w) P w K mg base N qual scope f cd A outer s₀ H₀ E).env = (false,eval e (cxOf (CXR P w) P w K mg base N qual scope f cd A outer s₀ H₀ E).env) :: starEach es (cxOf (CXR P w) P w K mg base N qual scope f cd A outer s₀ H₀ E).env:=by rfl)
  (hpl:(backTo cpos (starEach es (cxOf (CXR P w) P w K mg base N qual scope f cd A outer s₀ H₀ E).env)).any (·.1) = false:=by rfl) :
  DS (cxOf (CXR P w) P w K mg base N qual scope f cd A outer s₀ H₀ E) E (.Raise (some (.Call (.Name x np) (e :: es) [] cpos)) none pos) (tRaise E C t) (rse x m):=by
 refine ⟨ps_raise hg hm hq ha.p hd he hpl,?_⟩
 intro F0 H0 F H σ ρ rr
 refine (ha.s F0 H0 F H σ ρ rr).stm (w':=fun vs H1 _=>vs.length ≤ 1000 ∧ E (.ref C) none H1) rr.g fun ds ed F1 H1 vs g1 rs=>?_
 exact fun D q=>⟨by rw [rs.length,ha.n ρ ds ed];exact hn,q F1 H1 C (rr.g.trans g1) hm⟩
theorem rep_start {F H:Hp} {vs:List V} {ds:List D} (s:Same F H) (r:Rps K mg F vs ds):Rep K mg F H F H (start N vs) (ev0 N.length ds):=by
 have hl:=r.length
 have key:∀ (i:Nat) (c:Cl),(ev0 N.length ds)[i]? = some c → c = .no ∨ ∃ d,ds[i]? = some d ∧ c = .im d:=by
  intro i c e
  rw [ev0_eq] at e
  by_cases hi:i < ds.length
  ·rw [List.getElem?_append_left (by simpa using hi),List.getElem?_map,List.getElem?_eq_getElem hi] at e
   exact .inr ⟨ds[i],List.getElem?_eq_getElem hi,(Option.some.inj e).symm⟩
  ·rw [List.getElem?_append_right (by simpa using hi),List.getElem?_replicate] at e
   split at e
   ·exact .inl (Option.some.inj e).symm
   ·cases e
 refine ⟨.refl s,?_,fun i d e=>?_,fun i ds' e=>?_,fun i j ds' es' a e=>?_⟩
 ·rw [ev0_eq]
  unfold start
  simp [hl]
 ·rcases key i _ e with z | ⟨d',e1,z⟩
  ·cases z
  ·cases z
   obtain ⟨v,e2,rv⟩:=r.get e1
   refine ⟨v,?_,rv⟩
   have hi:i < vs.length:=(List.getElem?_eq_some_iff.mp e2).1
   unfold start
   rw [List.getElem?_append_left (by simpa using hi),List.getElem?_map,e2]
   rfl
 ·rcases key i _ e with z | ⟨d',e1,z⟩ <;> cases z
 ·rcases key i _ e with z | ⟨d',e1,z⟩ <;> cases z
theorem okD {st:Stmt} {fd:FuncData} {k:Nat} {mb:MS} (F:Fun K x x st f fd) (S:FnScope N ps (defScope st))
  (h:∀ (cdv:Value) (A:Around) (outer:List Env) (s:Shared) (H:Hp) (E:XK),Room k (A.deeper (envOfC x (defScope st) s.heap.objs.size f cdv)) → ∃ t,DSs (cxOf (CXR P w) P w K mg base N x (defScope st) f cdv A outer s H E) E (defBody st) t mb) :
  FnOk P w K mg base (CXR P w) (k + 1) f fd ps (spD K mg ps.length (fn N.length mb)):=by
 obtain ⟨oc,od,kV,doc,pm,an,cdv,ct,osl,rfl,lk,hcd⟩:=F.ex
 refine fn_of lk hcd S (fun vs H Q E q=>q.1) fun A outer s H vs Q E hr hsp=>?_
 obtain ⟨t,hd⟩:=h cdv A outer s H E hr
 refine ⟨t,hd.p,?_⟩
 obtain ⟨_,F0,ds,s0,rs,hb,hok,hex⟩:=hsp
 have z:=hd.s F0 H F0 H (start N vs) (ev0 N.length ds) (rep_start s0 rs)
 unfold fn at hb hok hex
 cases e:mb (ev0 N.length ds) with
 | ok fl =>
  rw [e] at z hb hok hex
  cases fl with
  | nx ρ=>exact z _ fun F' H' σ' _ r'=>hok .non rfl F' H' .non r'.g .non
  | rt d=>exact z _ fun F' H' v g rv=>hok d rfl F' H' v g rv
  | bk ρ=>exact absurd rfl hb
  | ct ρ=>exact absurd rfl hb
 | ex c =>
  rw [e] at z hex
  exact z _ fun F' H' C g hc=>hex c rfl F' H' C g hc
 | bad=>rw [e] at hb;exact absurd rfl hb
theorem _root_.L2.Def.cal {st:Stmt} {k:Nat} {mb:MS} (D:Def K mg x st ps) (S:FnScope N ps (defScope st))
  (h:∀ (f:Addr) (cdv:Value) (A:Around) (outer:List Env) (s:Shared) (H:Hp) (E:XK),Room k (A.deeper (envOfC x (defScope st) s.heap.objs.size f cdv)) → ∃ t,DSs (cxOf (CXR P w) P w K mg base N x (defScope st) f cdv A outer s H E) E (defBody st) t mb) :
  Cal P w K mg base (k + 1) x ps (fn N.length mb):=by
 obtain ⟨f,fd,F,b,hm⟩:=D.ex
 exact ⟨f,fd,okD F S (h f),b,F.kp,hm⟩
end
theorem cxr_no {P:Program} {w:World} {l:List Env} {H:Hp} {s s':Shared} {e:Value} (h:CXR P w l H s (fun _ _ _=>False) e s'):False:=by
 obtain ⟨_,_,_,_,_,q⟩:=h
 exact q
def spLaw (K:PySem.W.Frag):Sp:=fun vs H Q _=>∃ (a:Addr) (ns:List Int),vs = [.ref a] ∧ SqL K H a (ns.map V.int) ∧ ns.length ≤ 63 ∧ ∀ H',Q (.bl true) H'
theorem rps_ints {K:PySem.W.Frag} {mg:Str → Option Value} {H:Hp}:∀ ns:List Int,Rps K mg H (ns.map V.int) (ns.map D.int)
 | []=>.nil
 | n :: r=>.cons (.int n) (rps_ints r)
theorem law_sp {K:PySem.W.Frag} {mg:Str → Option Value} {m:List D → Res D} (h:∀ ns:List Int,ns.length ≤ 63 → m [.lst (ns.map .int)] = .ok (.bl true)):∀ vs H Q E,spLaw K vs H Q E → spD K mg 1 m vs H Q E:=by
 rintro vs H Q E ⟨a,ns,rfl,hS,hl,q⟩
 have e:=h ns hl
 refine ⟨rfl,H,_,Same.refl _,.cons (.lst hS (rps_ints ns)) .nil,fun z=>?_,fun d e'=>?_,fun c e'=>?_⟩
 ·rw [e] at z;cases z
 ·rw [e] at e';cases e'
  intro F' H' x _ rx
  cases rx
  exact q H'
 ·rw [e] at e';cases e'
end L2.Ds
namespace L2.Ds
open PySem PySem.Spec PyProof.Rows Dl
theorem d_callC {X:Cx} {N:List Str} {scope:Scope} {cl:List (Str × Addr)} {C':Addr} {s:Shared} {H:Hp} {fp:List Addr} {pn:List (Addr × Obj)} {e:Expr} {es:List Expr} {t:TA} {m:MA} {n k l:Nat} {x:Str} {ps:List Str} {f:List D → Res D} {p pos:Pos}
  (C:Cal X.prog X.w X.K X.mg X.base k x ps f) (hr:Room l X.A) (hn:k ≤ l) (hg:Gl (cxComp X N scope cl C' s H fp pn) x) (ha:DA (cxComp X N scope cl C' s H fp pn) E0 n (e :: es) t m) (hps:ps.length = n:=by rfl)
  (hdb:(x == ("__debug__" : Str)) = false:=by decide) (he:starEach (e :: es) (cxComp X N scope cl C' s H fp pn).env = (false,eval e (cxComp X N scope cl C' s H fp pn).env) :: starEach es (cxComp X N scope cl C' s H fp pn).env:=by rfl)
  (hpl:(backTo pos (starEach es (cxComp X N scope cl C' s H fp pn).env)).any (·.1) = false:=by rfl) :
  DE (cxComp X N scope cl C' s H fp pn) E0 (.Call (.Name x p) (e :: es) [] pos) (tCall (spD X.K X.mg ps.length f) [] E0 t) (on f m) :=
 d_call (X:=cxComp X N scope cl C' s H fp pn) C hr hn hg pass_c ha hps hdb he hpl
end L2.Ds
namespace L2.Ds
open PySem PySem.Spec PyProof.Rows Dl
section
variable {X:Cx} {E:XK}
theorem all_range:∀ bs:List Bool,((List.range bs.length).all fun i=>bs.getD i true) = bs.all id
 | []=>rfl
 | b :: r=>by
  rw [List.length_cons,List.range_succ_eq_map,List.all_cons,List.all_map,List.all_cons,← all_range r]
  rfl
theorem vals_bools:∀ (bs:List Bool) (its:List Value),Vals (bs.map V.bl) its → its = bs.map Value.bool
 | [],_,.nil=>rfl
 | b :: r,_,.cons h t=>by
  cases h
  rw [List.map_cons,vals_bools r _ t]
def rAll (K:PySem.W.Frag):List V → Hp → VK → Prop:=fun xs H Q=>∃ (a:Addr) (bs:List Bool),xs = [.ref a] ∧ SqL K H a (bs.map V.bl) ∧ Q (.bl (bs.all id)) H
theorem call_allD (hc:X.calm = true):CallR X (.builtin "all") (rAll X.K):=by
 intro pins s σ H xs us Q I r h
 obtain ⟨a,bs,rfl,hq,q⟩:=h
 obtain ⟨u,rfl,r1⟩:=vals1 r
 cases r1
 obtain ⟨its,rv,pl,hz⟩:=I.list hq
 obtain rfl:=vals_bools bs its rv
 have la:a < s.heap.objs.size:=by
  obtain ⟨o,_,ho,_⟩:=pl
  exact Heap.lt_size ho
 refine call_all_walk (wpAny_pyIter_list pl.isList ?_)
 refine ⟨s.heap.objs.size,_,_,_,_,_,fun i=>bs.getD i true,rfl,Walks.list (A:=X.A.in1) (I.ok.hd hc) s.heap.objs.size a (Nat.ne_of_lt la) (bs.map Value.bool).toArray,⟨⟨_,Heap.get?_push_size _ rfl,rfl,rfl⟩,?_⟩,?_,fun h' tk k=>?_⟩
 ·exact pl.isList.at fun o e=>Heap.get?_push_of_some _ e
 ·intro i v s2 Q2 E2 hP hQ
  have e:v = .bool (bs.getD i true):=by
   rw [List.getElem?_toArray,List.getElem?_map] at hP
   cases q:bs[i]? with
   | none=>rw [q] at hP;cases hP
   | some b =>
    rw [q] at hP
    cases hP
    rw [List.getD_eq_getElem?_getD,q];rfl
  subst e
  exact wpAny_pure hQ
 ·have e:(List.range (bs.map Value.bool).toArray.size).all (fun i=>bs.getD i true) = bs.all id:=by
   rw [List.size_toArray,List.length_map];exact all_range bs
  rw [e]
  exact ⟨.bl (bs.all id),H,I.kept fun b o z=>k b o (by simp;exact Nat.ne_of_lt (Heap.lt_size z)) (Heap.get?_push_of_some _ z),rfl,q⟩
theorem bools_of {K:PySem.W.Frag} {mg:Str → Option Value} {F:Hp}:∀ {xs:List V} {ds:List D} {bs:List Bool},Rps K mg F xs ds → bools ds = .ok bs → xs = bs.map V.bl
 | _,_,_,.nil,e=>by cases e;rfl
 | _,_,bs,.cons (d:=d) (ds:=ds) h r,e=>by
  unfold bools at e
  cases d with
  | bl b =>
   cases q:bools ds with
   | ok bs' =>
    simp only [q,Res.bind] at e
    cases e
    cases h
    rw [List.map_cons,bools_of r q]
   | ex c=>simp only [q,Res.bind] at e;cases e
   | bad=>simp only [q,Res.bind] at e;cases e
  | _=>cases e
theorem bools_ne {c:Str}:∀ ds:List D,bools ds ≠ .ex c
 | [],h=>by cases h
 | d :: r,h=>by
  unfold bools at h
  cases d with
  | bl b =>
   cases q:bools r with
   | ok bs'=>simp only [q,Res.bind] at h;cases h
   | ex c'=>exact bools_ne r q
   | bad=>simp only [q,Res.bind] at h;cases h
  | _=>cases h
theorem callD_all {K:PySem.W.Frag} {mg:Str → Option Value}:CallD K mg (rAll K) bAll:=by
 intro E F H xs ds s r
 unfold bAll
 split
 ·next d =>
  obtain ⟨x,rfl,rx⟩:=r.one
  cases d with
  | lst es =>
   cases rx with
   | lst h rs =>
    show Ans mg E (Rp K mg) F H ((bools es).bind fun bs=>.ok (.bl (bs.all id))) _
    cases q:bools es with
    | ok bs =>
     have e:=bools_of rs q
     subst e
     exact Ans.ret s (.bl _) fun Q z=>⟨_,bs,rfl,s.seq h,z⟩
    | ex c=>exact absurd q (bools_ne es)
    | bad=>trivial
  | _=>trivial
 ·trivial
theorem Rps.three {K:PySem.W.Frag} {mg:Str → Option Value} {H:Hp}:∀ {xs:List V} {d e f:D},Rps K mg H xs [d,e,f] → ∃ x y z,xs = [x,y,z] ∧ Rp K mg H x d ∧ Rp K mg H y e ∧ Rp K mg H z f
 | _,_,_,_,.cons h (.cons h' (.cons h'' .nil))=>⟨_,_,_,rfl,h,h',h''⟩
end
section
variable {K:PySem.W.Frag} {mg:Str → Option Value} {F0 H0 F H:Hp} {σ:St} {ρ:Ev}
end
section
variable {X:Cx} {E:XK} {k l i j:Nat} {x y n:Str} {Cy:Addr} {ps:List Str} {f:List D → Res D} {t:TA} {m:MA} {u:Addr → TS} {b:MS} {e:Expr} {es:List Expr} {p yp cpos epos hpos pos:Pos} {b₀:Stmt} {suite:List Stmt} {hits:List Str}
end
end L2.Ds
namespace L2.Ds
open PySem PySem.Spec PyProof.Rows Dl
section
variable {X:Cx} {E:XK}
theorem d_rev {a st:Expr} {ta ts:TE} {ma:ME} {p2 pos:Pos} (ha:DE X E a ta ma) (hs:DE X E st ts (o1 dNeg (c (.int 1)))):DE X E (.Subscript a (.Slice none none (some st) p2) pos) (tRev X.K ta ts) (o1 dRev ma):=by
 refine ⟨pe_rev ha.p hs.p,?_⟩
 intro F0 H0 F H σ ρ rr
 refine (ha.s F0 H0 F H σ ρ rr).bind (R':=Rp X.K X.mg) (w':=fun x H1 Q=>ts σ H1 fun y H2=>y = .int (-1) ∧ ∃ a xs,x = .ref a ∧ SqL X.K H2 a xs ∧ ∀ p,H2 p = none → (Q:VK) (V.ref p) (upd H2 p (.lst xs.reverse))) fun F1 H1 x dx g1 rx=>?_
 cases dx with
 | lst es =>
  cases rx with
  | lst h rs =>
   have z:=hs.s F0 H0 F1 H1 σ ρ (rr.gr g1)
   exact fun Q q=>z _ fun F2 H2 y g2 ry=>by
    cases ry
    exact ⟨rfl,_,_,rfl,g2.s.seq (g2.f.seq h),fun p hp=>q _ _ _ (g2.trans (.new g2.s hp _)) (.lst (SqL.of upd_same) (((rs.same g2.f).rev).same (same_new (g2.s.free hp) _)))⟩
 | _=>trivial
end
section
variable {K:PySem.W.Frag} {mg:Str → Option Value} {E:XK} {i:Nat}
theorem ss_setO {t:TA} {m:MA} {n:Nat} (ha:SA K mg E t m) (hl:SAn n m) (hn:n ≤ sizeLine):SS K mg E (tAsg (tLst t) (gName i)) (stO i (mls m)):=by
 intro F0 H0 F H σ ρ rr
 have h:=ha F0 H0 F H σ ρ rr
 unfold stO mls
 cases e:m ρ with
 | ok ds =>
  rw [e] at h
  exact fun D q=>h _ fun F' H' xs g rs=>⟨by rw [rs.length,hl ρ ds e];exact hn,fun p hp=>q F' _ _ g.f ((rr.gr g).own i hp rs)⟩
 | ex c =>
  rw [e] at h
  exact fun D q=>h _ fun F' H' C g hC=>q F' H' C (rr.g.trans g) hC
 | bad=>trivial
end
section
variable {X:Cx} {E:XK} {a b e c' tg iter elt:Expr} {es ts:List Expr} {ta tb tc te:TE} {ma mb mc me:ME} {sa sb:TT} {na nb:MB} {t:TA} {m:MA} {pos spos pos':Pos} {n i j:Nat} {x y:Str}
theorem ds_setO (hN:X.N.Nodup) (hi:X.N[i]? = some x) (hx:Loc X.env.scope x) (ha:DA X E n es t m) (hn:n ≤ sizeLine:=by decide) (hs:swapsWith (.List es pos) (some (.Name x pos')) spos.line X.env = pure false:=by rfl) (hf:X.fn x = true ∨ X.env.scope.names.lookup x = some .local:=by first | exact .inl rfl | exact .inr rfl | assumption) :
  DS X E (.Assign [.Name x pos'] (.List es pos) spos) (tAsg (tLst t) (gName i)) (stO i (mls m)):=⟨ps_set hN hi hx (pe_lst ha.p) hs hf,ss_setO ha.s ha.n hn⟩
theorem ds_app (i:Nat) {np apos cpos:Pos} (he:DE X E e te me) (hN:X.N[i]? = some x:=by rfl) (hv:Vis X.env.scope x:=by first | exact Or.inl rfl | exact Or.inr (Or.inl rfl) | exact Or.inr (Or.inr rfl)) (hd:(x == ("__debug__" : Str)) = false:=by decide)
  (hcd:(x == ("__classdict__" : Str)) = false:=by decide) (hbase:attributeBase (.Name x np) "append" X.env (eval (.Name x np) X.env) = eval (.Name x np) X.env:=by rfl)
  (hfew:((backTo cpos (starEach [e] X.env)).all (fun x=>!x.1) && (backToKw cpos (keywordEach [] X.env)).all (fun x=>x.1.isSome)
   && decide ([e].length + ([]:List Keyword).length + (if ([]:List Keyword).isEmpty then 0 else 1) < 30)) = true:=by rfl)
  (hline:(apos.endLine == cpos.line) = true:=by rfl) (hs:starEach [e] X.env = (false,eval e X.env) :: starEach [] X.env:=by rfl) (hplain:(backTo cpos (starEach [] X.env)).any (·.1) = false:=by rfl)
  (hsw:swapsWith (.Call (.Attribute (.Name x np) "append" apos) [e] [] cpos) none spos.line X.env = pure false:=by rfl) :
  DS X E (.Expr (.Call (.Attribute (.Name x np) "append" apos) [e] [] cpos) spos) (tDrop (tBM X.K "list" rAppend (tVar i) (tCons te tNil))) (app i me) :=
 ⟨ps_expr (pe_bm PySem.F.plainAttrs_list PySem.F.slot_list_append PySem.F.type_list_append mt_append (pe_var hN hv hd hcd) (pa_cons he.p pa_nil hs) hbase hfew hline hs hplain) hsw,
  ss_app he.s fun H a xs h=>.inl ⟨rfl,xs,SqL.of h⟩⟩
end
end L2.Ds
namespace L2
open PySem PySem.Spec PyProof.Rows PySem.Calls
section
variable {X:Cx} {k:Nat} {x y:Str} {Cy fa:Addr} {fd:FuncData} {ps:List Str} {sp:Sp} {t:TA} {u:Addr → TS} {e:Expr} {es:List Expr} {p yp cpos epos hpos pos:Pos} {b₀:Stmt} {suite:List Stmt}
end
end L2
namespace L2.Ds
open PySem PySem.Spec PyProof.Rows Dl
section
variable {K:PySem.W.Frag} {mg:Str → Option Value}
def del (F:Hp) (a:Addr):Hp:=fun b=>if b = a then none else F b
theorem del_at {F:Hp} {a:Addr}:del F a a = none:=if_pos rfl
theorem del_ne {F:Hp} {a b:Addr} (h:b ≠ a):del F a b = F b:=if_neg h
theorem Rep.look {F0 H0 F H:Hp} {σ:St} {ρ:Ev} {i:Nat} {ds:List D} (r:Rep K mg F0 H0 F H σ ρ) (e:ρ[i]? = some (.ow ds)) :
  ∃ F',Rep K mg F0 H0 F' H σ (ρ.set i (.im (.lst ds))) ∧ ∀ F1 H1,Gr F' H F1 H1 → ∃ F2,Gr F H F2 H1:=by
 obtain ⟨a,xs,e2,e4,e5,e3,hr⟩:=r.ow i ds e
 have sF:Same F (upd F a (.lst xs)):=same_new e5 _
 refine ⟨upd F a (.lst xs),⟨⟨r.g.f.trans sF,fun b o q=>?_,fun b o q1 q2=>?_⟩,by rw [List.length_set];exact r.len,fun j u q=>?_,fun j es q=>?_,fun j k es ts b q1 q2 q3 q4=>?_⟩,fun F1 H1 g=>⟨del F1 a,⟨fun b o q=>?_,fun b o q=>?_,fun b o q1 q2=>?_⟩⟩⟩
 ·by_cases hb:b = a
  ·subst hb;rw [upd_same] at q;cases q;exact e3
  ·rw [upd_ne hb] at q;exact r.g.s b o q
 ·rw [upd_ne (ne_of_none q2 e4)];exact r.g.o b o q1 q2
 ·rcases set_get q with ⟨rfl,z,_⟩ | ⟨_,q⟩
  ·cases z
   exact ⟨.ref a,e2,.lst (SqL.of upd_same) (hr.same sF)⟩
  ·obtain ⟨x,h1,h2⟩:=r.im j u q
   exact ⟨x,h1,h2.same sF⟩
 ·rcases set_get q with ⟨_,z,_⟩ | ⟨hij,q⟩
  ·cases z
  ·obtain ⟨b,ys,h1,h2,h3,h4,h5⟩:=r.ow j es q
   have nb:b ≠ a:=by
    rintro rfl
    exact hij (r.ne i j ds es b e q e2 h1)
   exact ⟨b,ys,h1,h2,by rw [upd_ne nb];exact h3,h4,h5.same sF⟩
 ·rcases set_get q1 with ⟨_,z,_⟩ | ⟨_,q1⟩
  ·cases z
  ·rcases set_get q2 with ⟨_,z,_⟩ | ⟨_,q2⟩
   ·cases z
   ·exact r.ne j k es ts b q1 q2 q3 q4
 ·rw [del_ne (ne_of_none q e5)];exact g.f b o (sF b o q)
 ·by_cases hb:b = a
  ·subst hb;rw [del_at] at q;cases q
  ·rw [del_ne hb] at q;exact g.s b o q
 ·by_cases hb:b = a
  ·subst hb
   rw [e3] at q2;cases q2
   exact ⟨del_at,g.s _ _ (g.f _ _ upd_same)⟩
  ·rw [del_ne hb]
   exact g.o b o (by rw [upd_ne hb];exact q1) q2
theorem rp_scal {F F':Hp} {x:V} {d d':D} (r:Rp K mg F x d) (e:scalD d = .ok d'):Rp K mg F' x d':=by
 cases r with
 | non=>cases e;exact .non
 | bl b=>cases e;exact .bl b
 | int b=>cases e;exact .int b
 | str b=>cases e;exact .str b
 | _=>cases e
theorem scal_ne {d:D} {c:Str}:scalD d ≠ .ex c:=by cases d <;> intro h <;> cases h
theorem se_pk {E:XK} {t:TE} {m:ME} (i:Nat) (h:SE K mg E t m):SE K mg E t (pk i m):=by
 intro F0 H0 F H σ ρ rr
 unfold pk getO
 split
 ·next ds e =>
  obtain ⟨F',r',back⟩:=rr.look e
  have z:=h F0 H0 F' H σ _ r'
  show Ans mg E (Rp K mg) F H ((m (ρ.set i (.im (.lst ds)))).bind scalD) _
  cases em:m (ρ.set i (.im (.lst ds))) with
  | ok d =>
   rw [em] at z
   show Ans mg E (Rp K mg) F H (scalD d) _
   cases es:scalD d with
   | ok d' =>
    exact fun Q q=>z Q fun F1 H1 b g1 rb=>by
     obtain ⟨F2,g2⟩:=back F1 H1 g1
     exact q F2 H1 b g2 (rp_scal rb es)
   | ex c=>exact absurd es scal_ne
   | bad=>trivial
  | ex c =>
   rw [em] at z
   exact fun Q q=>z Q fun F1 H1 C g1 hC=>by
    obtain ⟨F2,g2⟩:=back F1 H1 g1
    exact q F2 H1 C g2 hC
  | bad=>trivial
 ·trivial
theorem st_pk {E:XK} {t:TT} {m:MB} (i:Nat) (h:STt K mg E t m):STt K mg E t (pkB i m):=by
 intro F0 H0 F H σ ρ rr
 unfold pkB getO
 split
 ·next ds e =>
  obtain ⟨F',r',back⟩:=rr.look e
  have z:=h F0 H0 F' H σ _ r'
  show Ans mg E RB F H (m (ρ.set i (.im (.lst ds)))) _
  cases em:m (ρ.set i (.im (.lst ds))) with
  | ok d =>
   rw [em] at z
   exact fun Q q=>z Q fun F1 H1 b g1 rb=>by
    obtain ⟨F2,g2⟩:=back F1 H1 g1
    exact q F2 H1 b g2 rb
  | ex c =>
   rw [em] at z
   exact fun Q q=>z Q fun F1 H1 C g1 hC=>by
    obtain ⟨F2,g2⟩:=back F1 H1 g1
    exact q F2 H1 C g2 hC
  | bad=>trivial
 ·trivial
end
section
variable {X:Cx} {E:XK} {k l i j:Nat} {x y:Str} {Cy:Addr} {ps:List Str} {f:List D → Res D} {t:TA} {m:MA} {u:Addr → TS} {b:MS} {e:Expr} {es:List Expr} {p yp cpos epos hpos pos:Pos} {b₀:Stmt} {suite:List Stmt} {hits:List Str} {te:TE} {me:ME} {tt:TT} {mt:MB}
theorem d_pk (i:Nat) (h:DE X E e te me):DE X E e te (pk i me):=⟨h.p,se_pk i h.s⟩
theorem dt_pk (i:Nat) (h:DT X E e tt mt):DT X E e tt (pkB i mt):=⟨h.p,st_pk i h.s⟩
end
end L2.Ds
namespace L2.Ds
open PySem PySem.Spec PyProof.Rows Dl
section
variable {X:Cx} {pins:List (Addr × Obj)} {σ:St} {H:Hp} {s:Shared}
mutual
theorem dv_det (I:Inv X pins σ H s):∀ {x:V} {d d':PyData},DV X.K H x d → DV X.K H x d' → d = d'
 | _,_,_,.non,.non=>rfl
 | _,_,_,.bl _,.bl _=>rfl
 | _,_,_,.int _,.int _=>rfl
 | _,_,_,.str _,.str _=>rfl
 | _,_,_,.tup h q,.tup h' q'=>by
  have e:=I.tuple_inj h h'
  subst e
  rw [dvs_det I q q']
 | _,_,_,.lst h q,.lst h' q'=>by
  have e:=I.list_inj h h'
  subst e
  rw [dvs_det I q q']
 | _,_,_,.tup h q,.lst h' q'=>by
  obtain ⟨_,_,⟨o,e1,e2,_⟩,_⟩:=I.tuple h
  obtain ⟨_,_,⟨o',_,e1',e2',_⟩,_⟩:=I.list h'
  rw [e1] at e1';cases e1'
  rw [e2] at e2';simp at e2'
 | _,_,_,.lst h q,.tup h' q'=>by
  obtain ⟨_,_,⟨o,e1,e2,_⟩,_⟩:=I.tuple h'
  obtain ⟨_,_,⟨o',_,e1',e2',_⟩,_⟩:=I.list h
  rw [e1] at e1';cases e1'
  rw [e2] at e2';simp at e2'
theorem dvs_det (I:Inv X pins σ H s):∀ {xs:List V} {ds ds':List PyData},DVs X.K H xs ds → DVs X.K H xs ds' → ds = ds'
 | _,_,_,.nil,.nil=>rfl
 | _,_,_,.cons h r,.cons h' r'=>by rw [dv_det I h h',dvs_det I r r']
end
def hitE (X:Cx) (H:Hp) (dx:PyData) (u:Value):Bool:=@decide (∃ y d,RelV y u ∧ DV X.K H y d ∧ PyData.eqv d dx = true) (Classical.propDecidable _)
theorem hitE_eq (I:Inv X pins σ H s) {dx d:PyData} {u:Value} {y:V} (r:RelV y u) (h:DV X.K H y d):hitE X H dx u = PyData.eqv d dx:=by
 unfold hitE
 cases e:PyData.eqv d dx with
 | true=>exact @decide_eq_true _ (Classical.propDecidable _) ⟨y,d,r,h,e⟩
 | false =>
  refine @decide_eq_false _ (Classical.propDecidable _) ?_
  rintro ⟨y',d',r',h',e'⟩
  have ey:=r.inj r'
  subst ey
  rw [dv_det I h h',e'] at e
  cases e
theorem hit_any (I:Inv X pins σ H s) {dx:PyData}:∀ {ys:List V} {its:List Value} {ds:List PyData},Vals ys its → DVs X.K H ys ds → its.any (hitE X H dx) = ds.any fun d=>PyData.eqv d dx
 | _,_,_,.nil,.nil=>rfl
 | _,_,_,.cons r1 r2,.cons h1 h2=>by rw [List.any_cons,List.any_cons,hit_any I r2 h2,hitE_eq I r1 h1]
theorem hit_at (I:Inv X pins σ H s):∀ {ys:List V} {its:List Value} {ds:List PyData} {u:Value},Vals ys its → DVs X.K H ys ds → PyData.canLayAll0 ds = true → u ∈ its → ∃ y d,RelV y u ∧ DV X.K H y d ∧ d.canLay0 = true
 | _,_,_,_,.nil,.nil,_,hu=>by cases hu
 | _,_,_,u,.cons r1 r2,.cons h1 h2,hc,hu=>by
  have hc':=(show PyData.canLay0 _ = true ∧ PyData.canLayAll0 _ = true by simpa [PyData.canLayAll0] using hc)
  rcases List.mem_cons.mp hu with rfl | hu
  ·exact ⟨_,_,r1,h1,hc'.1⟩
  ·exact hit_at I r2 h2 hc'.2 hu
def rInD (K:PySem.W.Frag) (f:Bool → Bool):R2:=fun x y H Q=>∃ a ys dx dys,y = .ref a ∧ (SqL K H a ys ∨ SqT K H a ys) ∧ DV K H x dx ∧ DVs K H ys dys ∧ dx.canLay0 = true ∧ PyData.canLayAll0 dys = true ∧ dx.depth ≤ 50 ∧ Q (.bl (f (dys.any fun d=>PyData.eqv d dx))) H
end
section
variable {X:Cx} {E:XK}
theorem op_ninD (hu:X.A.units + 64 < cLine):OpR X (compareOp .NotIn) (rInD X.K not):=by
 intro pins s σ H x y v u Q I rx ry h
 obtain ⟨a,ys,dx,dys,rfl,hq,h1,h2,h3,h4,h5,q⟩:=h
 cases ry
 obtain ⟨bs,rb⟩:=h1.reads I rx
 have eq:∀ {its:List Value},Vals ys its → ∀ u,u ∈ its.toArray → PySem.SeqAt.EqAt X.A.in1 s u v (hitE X H dx u):=fun {its} rv u hm=>by
  obtain ⟨y',d',r',h',c'⟩:=hit_at I rv h2 h4 (by simpa using hm)
  obtain ⟨as,ra⟩:=h'.reads I r'
  rw [hitE_eq I r' h']
  exact PySem.SeqAt.eqAt_reads d' dx X.A.in1 s u v as bs ra rb c' h3 (by show X.A.units + 1 + _ < _;omega)
 rcases hq with hq | hq
 ·obtain ⟨its,rv,pl,hz⟩:=I.list hq
  refine PySem.SeqAt.notIn_listAt (hitE X H dx) pl.isList (eq rv) ?_
  have e:its.toArray.any (hitE X H dx) = dys.any fun d=>PyData.eqv d dx:=by rw [List.any_toArray];exact hit_any I rv h2
  rw [e]
  exact ⟨.bl _,H,I,rfl,q⟩
 ·obtain ⟨its,rv,pl,hz⟩:=I.tuple hq
  refine PySem.SeqAt.notIn_tupleAt (hitE X H dx) (show s.heap.IsTuple a its.toArray from pl) (eq rv) ?_
  have e:its.toArray.any (hitE X H dx) = dys.any fun d=>PyData.eqv d dx:=by rw [List.any_toArray];exact hit_any I rv h2
  rw [e]
  exact ⟨.bl _,H,I,rfl,q⟩
theorem any_py (x:D) (k:Nat) (hx:Dl.plain k x = true):∀ (ys:List D) (l:Nat),Dl.plains l ys = true → ((pyDs ys).any fun d=>PyData.eqv d (pyD x)) = inD x ys
 | [],_,_=>rfl
 | y :: r,l,h=>by
  have h':Dl.plain l y = true ∧ Dl.plains l r = true:=by simpa [Dl.plains] using h
  show (PyData.eqv (pyD y) (pyD x) || (pyDs r).any _) = (eqD y x || inD x r)
  rw [any_py x k hx r l h'.2,← eqD_py y x l k h'.1 hx]
theorem opD_inX {K:PySem.W.Frag} {mg:Str → Option Value} {f:Bool → Bool} {E:XK} {F H:Hp} {x y:V} {dx dy:D} (s:Same F H) (rx:Rp K mg F x dx) (ry:Rp K mg F y dy) :
  Ans mg E (Rp K mg) F H ((seqD dy).bind fun ys=>if Dl.plain 50 dx && Dl.plains 50 ys then .ok (.bl (f (inD dx ys))) else .bad) (rInD K f x y H):=by
 have fin:∀ (a:Addr) (ws:List V) (ys:List D),y = .ref a → (SqL K H a ws ∨ SqT K H a ws) → Rps K mg F ws ys → Ans mg E (Rp K mg) F H (if Dl.plain 50 dx && Dl.plains 50 ys then .ok (.bl (f (inD dx ys))) else .bad) (rInD K f x y H):=by
  rintro a ws ys rfl hq rs
  by_cases hp:(Dl.plain 50 dx && Dl.plains 50 ys) = true
  ·rw [if_pos hp]
   rw [Bool.and_eq_true] at hp
   obtain ⟨c1,c2⟩:=plain_py dx 50 hp.1
   obtain ⟨c3,_⟩:=plains_py ys 50 hp.2
   refine Ans.ret s (.bl _) fun Q q=>⟨a,ws,pyD dx,pyDs ys,rfl,hq,dv_same s (rp_dv rx hp.1),dvs_same s (rps_dvs rs hp.2),c1,c3,c2,?_⟩
   rw [any_py dx 50 hp.1 ys 50 hp.2]
   exact q
  ·rw [if_neg hp];trivial
 cases dy with
 | lst ys =>
  cases ry with
  | lst h r=>exact fin _ _ ys rfl (.inl (s.seq h)) r
 | tup ys =>
  cases ry with
  | tup h r=>exact fin _ _ ys rfl (.inr (seqT_same s h)) r
 | _=>trivial
theorem opD_nin {K:PySem.W.Frag} {mg:Str → Option Value}:OpD K mg (rInD K not) dNin:=fun _ _ _ _ _ _ _ s rx ry=>opD_inX (f:=not) s rx ry
variable {a b:Expr} {ta tb:TE} {ma mb:ME} {pos:Pos}
theorem dt_nin {k:Nat} (hr:Room k X.A) (ha:DE X E a ta ma) (hb:DE X E b tb mb) (hm:behindInMarks .NotIn b = false:=by rfl):DT X E (.Compare a [.NotIn] [b] pos) (tTest (tOp (rInD X.K not) ta tb)) (trb (o2 dNin ma mb)):=dt_cmp (op_ninD hr.units) opD_nin ha hb hm
end
end L2.Ds
namespace L2.Ds
open PySem PySem.Spec PyProof.Rows Dl
section
variable {X:Cx} {E:XK} {a b e c' tg iter elt:Expr} {es ts:List Expr} {ta tb tc te:TE} {ma mb mc me:ME} {sa sb:TT} {na nb:MB} {t:TA} {m:MA} {pos spos pos':Pos} {n i j:Nat} {x y:Str}
end
section
variable {P:Program} {w:World} {K:PySem.W.Frag} {mg:Str → Option Value} {base:Heap} {N ps:List Str} {x:Str}
end
section
variable {X:Cx} {E:XK} {k l n i:Nat} {x y:Str} {ps:List Str} {f:List D → Res D} {t:TA} {m:MA} {e:Expr} {es:List Expr} {p pos pos' spos:Pos}
end
end L2.Ds
namespace Dl
open PySem
def trips:List D → List D → List D → List D
 | x :: xs,y :: ys,z :: zs=>.tup [x,y,z] :: trips xs ys zs
 | _,_,_=>[]
def zip3:List D → Res (List D)
 | [x,y,z]=>(seqD x).bind fun xs=>(seqD y).bind fun ys=>(seqD z).bind fun zs=>.ok (trips xs ys zs)
 | _=>.bad
def lz3 (ds:List D):Res D:=(zip3 ds).bind fun xs=>.ok (.lst xs)
end Dl
namespace L2.Ds
open PySem PySem.Spec PyProof.Rows Dl
section
variable {X:Cx} {pins:List (Addr × Obj)} {σ:St} {H:Hp} {s:Shared}
end
section
variable {X:Cx} {E:XK}
end
section
variable {K:PySem.W.Frag} {mg:Str → Option Value} {E:XK} {ta tb te:TE} {ma mb me:ME} {F0 H0 F H:Hp}
theorem Rep.put {σ:St} {ρ:Ev} {i:Nat} {ds es:List D} {a:Addr} {xs ys:List V} (r:Rep K mg F0 H0 F H σ ρ) (e:ρ[i]? = some (.ow ds)) (e2:σ[i]? = some (some (.ref a))) (e3:H a = some (.lst xs)) (e4:H0 a = none) (e5:F a = none) (hr:Rps K mg F ys es) :
  Rep K mg F0 H0 F (upd H a (.lst ys)) σ (ρ.set i (.ow es)):=by
 refine ⟨⟨r.g.f,fun b o q=>?_,fun b o q1 q2=>?_⟩,by rw [List.length_set];exact r.len,fun j u q=>?_,fun j es q=>?_,fun j k es ts b q1 q2 q3 q4=>?_⟩
 ·rw [upd_ne (ne_of_none q e5)];exact r.g.s b o q
 ·rw [upd_ne (ne_of_none q2 e4)];exact r.g.o b o q1 q2
 ·rcases set_get q with ⟨_,z,_⟩ | ⟨_,q⟩
  ·cases z
  ·exact r.im j u q
 ·rcases set_get q with ⟨rfl,z,l⟩ | ⟨hij,q⟩
  ·cases z
   exact ⟨a,_,e2,e4,e5,upd_same,hr⟩
  ·obtain ⟨b,ys,h1,h2,h3,h4,h5⟩:=r.ow j es q
   have nb:b ≠ a:=by
    rintro rfl
    exact hij (r.ne i j ds es b e q e2 h1)
   exact ⟨b,ys,h1,h2,h3,by rw [upd_ne nb];exact h4,h5⟩
 ·have o1:∃ es',ρ[j]? = some (.ow es'):=by
   rcases set_get q1 with ⟨rfl,_,_⟩ | ⟨_,q⟩
   ·exact ⟨_,e⟩
   ·exact ⟨_,q⟩
  have o2:∃ es',ρ[k]? = some (.ow es'):=by
   rcases set_get q2 with ⟨rfl,_,_⟩ | ⟨_,q⟩
   ·exact ⟨_,e⟩
   ·exact ⟨_,q⟩
  obtain ⟨_,o1⟩:=o1
  obtain ⟨_,o2⟩:=o2
  exact r.ne j k _ _ b o1 o2 q3 q4
end
section
variable {X:Cx} {E:XK} {k i:Nat} {o e k' a b c' d':Expr} {to te tk ta tb tc td:TE} {mo me mk ma mb mc md:ME} {x:Str} {np apos cpos spos pos spos':Pos}
end
section
variable {X:Cx} {E:XK}
end
end L2.Ds
namespace L2
open PySem PySem.Spec PyProof.Rows
abbrev Z3 (h:Heap) (z TI TO:Addr) (f0 f1:Value):Prop:=h.get? z = some { cls:=.type "zip", dict:=none,data:=.fields #[f0,f1,.bool false,.ref TI,.ref TO],slots:=#[] }
abbrev Tr (h:Heap) (T:Addr) (a b c:Value):Prop:=h.get? T = some { cls:=.type "tuple", data:=.seq #[a,b,c] }
def Mk3 (f0:Value):Prop:=f0 = .none ∨ ∃ T:Nat,f0 = rawInt T
structure Ap3 (z TI TO i1 i2 i3 l1 l2 l3:Addr):Prop where
 o1:@LT.lt Nat _ i1 i2
 o2:@LT.lt Nat _ i2 i3
 o3:@LT.lt Nat _ i3 TI
 o4:@LT.lt Nat _ TI TO
 o5:@LT.lt Nat _ TO z
 a1:@LT.lt Nat _ l1 i1
 a2:@LT.lt Nat _ l2 i1
 a3:@LT.lt Nat _ l3 i1
theorem nelt {a b:Nat} (h:a < b ∨ b < a):a ≠ b:=by omega
section
variable {prog:Program} {w:World} {A:Around} {E:Value → Shared → Prop} {s:Shared}
theorem upd_tr {T:Addr} {a b c x:Value} {k:Nat} {Q:Unit → Shared → Prop} (kT:Tr s.heap T a b c)
  (h:∀ h',h'.get? T = some { cls:=.type "tuple", data:=.seq ((#[a,b,c]:Array Value).setIfInBounds k x) } → Heap.SameBut T s.heap h' → Q () { s with heap:=h' }) :
  wpAny (model prog w) A (updateSeq T (·.setIfInBounds k x)) Q E s:=by
 refine wpAny_updateSeq kT rfl (h _ ?_ (Heap.SameBut.update ..))
 rw [Heap.get?_update_self _ kT rfl]
 simp [Obj.mapSeq]
theorem if_alive {a:Addr} {Q:Option Obj → Shared → Prop} (h:Q (s.heap.get? a) s):wpAny (model prog w) A (loadIfAlive a) Q E s:=fun Γ p _=>by
 show PySem.Sem.wp _ Γ (Sem.loadIfAlive a fun x=>.pure x) _ _ p s
 rw [PySem.Sem.wp_loadIfAlive]
 exact h
theorem own_free {z TI TO:Addr} {f0 f1:Value} {Q:Bool → Shared → Prop} (kz:Z3 s.heap z TI TO f0 f1) (kf:Mk3 f0) (h1:Q true s) (h2:∀ h' f,Z3 h' z TI TO f0 f → Heap.SameBut z s.heap h' → Q false { s with heap:=h' }) :
  wpAny (model prog w) A (Builtin.SmallTypes.ownedTupleIsFree (.ref z)) Q E s:=by
 unfold Builtin.SmallTypes.ownedTupleIsFree
 refine wpAny_bind (wpAny_field kz rfl (x:=f0) rfl ?_)
 rcases kf with rfl | ⟨T,rfl⟩
 ·exact wpAny_pure h1
 ·refine wpAny_bind (if_alive ?_)
  split
  ·exact wpAny_pure h1
  ·refine wpAny_bind (wpAny_field kz rfl (x:=f1) rfl ?_)
   split
   ·refine wpAny_bind (wpAny_setField_rec kz (by simp) fun g kg ks=>wpAny_pure (h2 g _ kg ks))
   ·exact wpAny_pure (h2 s.heap f1 kz (Heap.SameBut.refl ..))
theorem z3_next {p q r:Bool} {z TI TO i1 i2 i3 l1 l2 l3:Addr} {k:Nat} {us vs ws:Array Value} {x y u a b c f0 f1:Value} {Q:Value → Shared → Prop} (D:Ap3 z TI TO i1 i2 i3 l1 l2 l3)
  (kz:Z3 s.heap z TI TO f0 f1) (kf:Mk3 f0) (kTI:Tr s.heap TI (.ref i1) (.ref i2) (.ref i3)) (kTO:Tr s.heap TO a b c)
  (m1:ItK p s.heap i1 l1 k) (m2:ItK q s.heap i2 l2 k) (m3:ItK r s.heap i3 l3 k) (n1:SqK p s.heap l1 us) (n2:SqK q s.heap l2 vs) (n3:SqK r s.heap l3 ws) (kx:us[k]? = some x) (ky:vs[k]? = some y) (ku:ws[k]? = some u)
  (kQ:∀ h' f0' f1',Z3 h' z TI TO f0' f1' → Mk3 f0' → (∃ a b c,Tr h' TO a b c) → ItK p h' i1 l1 (k + 1) → ItK q h' i2 l2 (k + 1) → ItK r h' i3 l3 (k + 1) → Tr h' s.heap.objs.size x y u →
   (∀ c o,c ≠ z → c ≠ TO → c ≠ i1 → c ≠ i2 → c ≠ i3 → s.heap.get? c = some o → h'.get? c = some o) → Q (.ref s.heap.objs.size) { s with heap:=h' }) :
  wpAny (model prog w) A (Builtin.«zip.__next__» ⟨[.ref z],[]⟩) (fun fin s'=>∃ v,fin = .done (.ret v) ∧ Q v s') E s:=by
 obtain ⟨o1,o2,o3,o4,o5,a1,a2,a3⟩:=D
 show wpAny _ _ (field (.ref z) 2 >>= _) _ _ _
 refine wpAny_bind (wpAny_field kz rfl (x:=.bool false) rfl ?_)
 show wpAny _ _ (field (.ref z) 3 >>= _) _ _ _
 refine wpAny_bind (wpAny_field kz rfl (x:=.ref TI) rfl ?_)
 refine wpAny_bind (wpAny_seqItems kTI rfl ?_)
 show wpAny _ _ (Builtin.SmallTypes.ownedTupleIsFree (.ref z) >>= _) _ _ _
 refine wpAny_bind (own_free kz kf ?_ fun g₁ f kz₁ ks₁=>?_)
 ·simp only [if_true]
  refine wpAny_bind (wpAny_rule ?_)
  refine wpAny_bind (wpAny_field kz rfl (x:=.ref TO) rfl ?_)
  refine wpAny_bind (wpAny_setField_rec kz (by simp) fun g₁ kz₁ ks₁=>?_)
  replace kz₁:Z3 g₁ z TI TO .ellipsis f1:=kz₁
  refine wpAny_bind ?_
  simp only [List.zipIdx_cons,List.zipIdx_nil,List.forIn_cons,List.forIn_nil]
  refine wpAny_bind (wpAny_bind (wpAny_onRaise ?_))
  show wpAny _ _ (Builtin.SmallTypes.nextOf (.ref i1) >>= _) _ _ _
  refine wpAny_bind (nextK_item (m1.extBut ks₁.extBut (nelt (by omega))) (n1.extBut ks₁.extBut (nelt (by omega))) kx fun g₂ m1₂ ks₂=>wpAny_pure ?_)
  have kT₂:Tr g₂ TO a b c:=ks₂.extBut _ _ (nelt (by omega)) (ks₁.extBut _ _ (nelt (by omega)) kTO)
  refine wpAny_bind (wpAny_seqItems kT₂ rfl ?_)
  refine wpAny_bind (upd_tr kT₂ fun g₃ kT₃ ks₃=>?_)
  replace kT₃:Tr g₃ TO x b c:=kT₃
  refine wpAny_bind (wpAny_letGo (wpAny_pure ?_))
  refine wpAny_bind (wpAny_bind (wpAny_onRaise ?_))
  show wpAny _ _ (Builtin.SmallTypes.nextOf (.ref i2) >>= _) _ _ _
  refine wpAny_bind (nextK_item (((m2.extBut ks₁.extBut (nelt (by omega))).extBut ks₂.extBut (nelt (by omega))).extBut ks₃.extBut (nelt (by omega))) (((n2.extBut ks₁.extBut (nelt (by omega))).extBut ks₂.extBut (nelt (by omega))).extBut ks₃.extBut (nelt (by omega))) ky fun g₄ m2₄ ks₄=>wpAny_pure ?_)
  have kT₄:Tr g₄ TO x b c:=ks₄.extBut _ _ (nelt (by omega)) kT₃
  refine wpAny_bind (wpAny_seqItems kT₄ rfl ?_)
  refine wpAny_bind (upd_tr kT₄ fun g₅ kT₅ ks₅=>?_)
  replace kT₅:Tr g₅ TO x y c:=kT₅
  refine wpAny_bind (wpAny_letGo (wpAny_pure ?_))
  refine wpAny_bind (wpAny_bind (wpAny_onRaise ?_))
  show wpAny _ _ (Builtin.SmallTypes.nextOf (.ref i3) >>= _) _ _ _
  refine wpAny_bind (nextK_item (((((m3.extBut ks₁.extBut (nelt (by omega))).extBut ks₂.extBut (nelt (by omega))).extBut ks₃.extBut (nelt (by omega))).extBut ks₄.extBut (nelt (by omega))).extBut ks₅.extBut (nelt (by omega))) (((((n3.extBut ks₁.extBut (nelt (by omega))).extBut ks₂.extBut (nelt (by omega))).extBut ks₃.extBut (nelt (by omega))).extBut ks₄.extBut (nelt (by omega))).extBut ks₅.extBut (nelt (by omega))) ku fun g₆ m3₆ ks₆=>wpAny_pure ?_)
  have kT₆:Tr g₆ TO x y c:=ks₆.extBut _ _ (nelt (by omega)) kT₅
  refine wpAny_bind (wpAny_seqItems kT₆ rfl ?_)
  refine wpAny_bind (upd_tr kT₆ fun g₇ kT₇ ks₇=>?_)
  replace kT₇:Tr g₇ TO x y u:=kT₇
  refine wpAny_bind (wpAny_letGo (wpAny_pure (wpAny_pure ?_)))
  refine wpAny_bind (wpAny_seqItems kT₇ rfl ?_)
  refine wpAny_bind (wpAny_newTuple ?_)
  have sz:g₇.objs.size = s.heap.objs.size:=by rw [ks₇.1,ks₆.1,ks₅.1,ks₄.1,ks₃.1,ks₂.1,ks₁.1]
  have kz₇:Z3 g₇ z TI TO .ellipsis f1:=ks₇.extBut _ _ (nelt (by omega)) (ks₆.extBut _ _ (nelt (by omega)) (ks₅.extBut _ _ (nelt (by omega)) (ks₄.extBut _ _ (nelt (by omega)) (ks₃.extBut _ _ (nelt (by omega)) (ks₂.extBut _ _ (nelt (by omega)) kz₁)))))
  have keep:∀ c o,c ≠ z → c ≠ TO → c ≠ i1 → c ≠ i2 → c ≠ i3 → s.heap.get? c = some o → g₇.get? c = some o:=fun c o c1 c2 c3 c4 c5 e =>
   ks₇.extBut _ _ c2 (ks₆.extBut _ _ c5 (ks₅.extBut _ _ c2 (ks₄.extBut _ _ c4 (ks₃.extBut _ _ c2 (ks₂.extBut _ _ c3 (ks₁.extBut _ _ c1 e))))))
  have q1:ItK p g₇ i1 l1 (k + 1):=((((m1₂.extBut ks₃.extBut (nelt (by omega))).extBut ks₄.extBut (nelt (by omega))).extBut ks₅.extBut (nelt (by omega))).extBut ks₆.extBut (nelt (by omega))).extBut ks₇.extBut (nelt (by omega))
  have q2:ItK q g₇ i2 l2 (k + 1):=((m2₄.extBut ks₅.extBut (nelt (by omega))).extBut ks₆.extBut (nelt (by omega))).extBut ks₇.extBut (nelt (by omega))
  have q3:ItK r g₇ i3 l3 (k + 1):=m3₆.extBut ks₇.extBut (nelt (by omega))
  have zlt:z < g₇.objs.size:=Heap.lt_size kz₇
  show wpAny _ _ (Builtin.SmallTypes.ownedTupleHandOut (.ref z) (.ref g₇.objs.size) >>= _) _ _ _
  refine wpAny_bind ?_
  unfold Builtin.SmallTypes.ownedTupleHandOut
  have kz₈:Z3 (g₇.push { cls:=.type "tuple", data:=.seq #[x,y,u] }) z TI TO .ellipsis f1:=Heap.get?_push_of_some _ kz₇
  refine wpAny_bind (wpAny_setField_rec kz₈ (by simp) fun g₉ kz₉ ks₉=>?_)
  replace kz₉:Z3 g₉ z TI TO (rawInt g₇.objs.size) f1:=kz₉
  refine wpAny_setField_rec kz₉ (by simp) fun gA kzA ksA=>?_
  replace kzA:Z3 gA z TI TO (rawInt g₇.objs.size) (.bool false):=kzA
  have up:∀ c o,c ≠ z → g₇.get? c = some o → gA.get? c = some o:=fun c o c1 e=>ksA.extBut _ _ c1 (ks₉.extBut _ _ c1 (Heap.get?_push_of_some _ e))
  have kTA:Tr gA g₇.objs.size x y u:=ksA.extBut _ _ (Nat.ne_of_gt zlt) (ks₉.extBut _ _ (Nat.ne_of_gt zlt) (Heap.get?_push_size _ rfl))
  rw [sz] at kTA
  refine wpAny_pure ⟨_,rfl,?_⟩
  show Q (.ref g₇.objs.size) _
  rw [sz]
  exact kQ gA _ _ kzA (.inr ⟨_,rfl⟩) ⟨_,_,_,up _ _ (nelt (by omega)) kT₇⟩ (q1.at fun o e=>up _ o (nelt (by omega)) e) (q2.at fun o e=>up _ o (nelt (by omega)) e) (q3.at fun o e=>up _ o (nelt (by omega)) e) kTA fun c o c1 c2 c3 c4 c5 e=>up c o c1 (keep c o c1 c2 c3 c4 c5 e)
 ·simp only [Bool.false_eq_true,if_false]
  rw [← Array.forIn_toList]
  simp only [List.forIn_cons,List.forIn_nil]
  refine wpAny_bind (wpAny_bind (wpAny_bind (wpAny_holding ?_)))
  show wpAny _ _ (Builtin.SmallTypes.nextOf (.ref i1) >>= _) _ _ _
  refine wpAny_bind (nextK_item (m1.extBut ks₁.extBut (nelt (by omega))) (n1.extBut ks₁.extBut (nelt (by omega))) kx fun g₂ m1₂ ks₂=>wpAny_pure (wpAny_pure ?_))
  refine wpAny_bind (wpAny_bind (wpAny_holding ?_))
  show wpAny _ _ (Builtin.SmallTypes.nextOf (.ref i2) >>= _) _ _ _
  refine wpAny_bind (nextK_item ((m2.extBut ks₁.extBut (nelt (by omega))).extBut ks₂.extBut (nelt (by omega))) ((n2.extBut ks₁.extBut (nelt (by omega))).extBut ks₂.extBut (nelt (by omega))) ky fun g₃ m2₃ ks₃=>wpAny_pure (wpAny_pure ?_))
  refine wpAny_bind (wpAny_bind (wpAny_holding ?_))
  show wpAny _ _ (Builtin.SmallTypes.nextOf (.ref i3) >>= _) _ _ _
  refine wpAny_bind (nextK_item (((m3.extBut ks₁.extBut (nelt (by omega))).extBut ks₂.extBut (nelt (by omega))).extBut ks₃.extBut (nelt (by omega))) (((n3.extBut ks₁.extBut (nelt (by omega))).extBut ks₂.extBut (nelt (by omega))).extBut ks₃.extBut (nelt (by omega))) ku fun g₄ m3₄ ks₄=>wpAny_pure (wpAny_pure (wpAny_pure ?_)))
  refine wpAny_bind (wpAny_newTuple (hsz:=show (3:Nat) ≤ sizeLine by decide) (wpAny_pure ⟨_,rfl,?_⟩))
  have sz:g₄.objs.size = s.heap.objs.size:=by rw [ks₄.1,ks₃.1,ks₂.1,ks₁.1]
  have keep:∀ c o,c ≠ z → c ≠ TO → c ≠ i1 → c ≠ i2 → c ≠ i3 → s.heap.get? c = some o → g₄.get? c = some o:=fun c o c1 _ c3 c4 c5 e=>ks₄.extBut _ _ c5 (ks₃.extBut _ _ c4 (ks₂.extBut _ _ c3 (ks₁.extBut _ _ c1 e)))
  have kz₄:Z3 g₄ z TI TO f0 f:=ks₄.extBut _ _ (nelt (by omega)) (ks₃.extBut _ _ (nelt (by omega)) (ks₂.extBut _ _ (nelt (by omega)) kz₁))
  have kT₄:Tr g₄ TO a b c:=ks₄.extBut _ _ (nelt (by omega)) (ks₃.extBut _ _ (nelt (by omega)) (ks₂.extBut _ _ (nelt (by omega)) (ks₁.extBut _ _ (nelt (by omega)) kTO)))
  have q1:ItK p g₄ i1 l1 (k + 1):=(m1₂.extBut ks₃.extBut (nelt (by omega))).extBut ks₄.extBut (nelt (by omega))
  have q2:ItK q g₄ i2 l2 (k + 1):=m2₃.extBut ks₄.extBut (nelt (by omega))
  have up:∀ c o,g₄.get? c = some o → (g₄.push { cls:=.type "tuple", data:=.seq #[x,y,u] }).get? c = some o:=fun c o e=>Heap.get?_push_of_some _ e
  have kTA:Tr (g₄.push { cls:=.type "tuple", data:=.seq #[x,y,u] }) g₄.objs.size x y u:=Heap.get?_push_size _ rfl
  rw [sz] at kTA
  show Q (.ref g₄.objs.size) _
  rw [sz]
  exact kQ _ _ _ (up _ _ kz₄) kf ⟨_,_,_,up _ _ kT₄⟩ (q1.at fun o e=>up _ o e) (q2.at fun o e=>up _ o e) (m3₄.at fun o e=>up _ o e) kTA fun c o c1 c2 c3 c4 c5 e=>up c o (keep c o c1 c2 c3 c4 c5 e)
theorem z3_stop {p q r:Bool} {z TI TO i1 i2 i3 l1 l2 l3:Addr} {k:Nat} {us vs ws:Array Value} {a b c f0 f1:Value} {Q:Fin → Shared → Prop} (kh:A.handled = none) (D:Ap3 z TI TO i1 i2 i3 l1 l2 l3)
  (kz:Z3 s.heap z TI TO f0 f1) (kf:Mk3 f0) (kTI:Tr s.heap TI (.ref i1) (.ref i2) (.ref i3)) (kTO:Tr s.heap TO a b c)
  (m1:ItK p s.heap i1 l1 k) (m2:ItK q s.heap i2 l2 k) (m3:ItK r s.heap i3 l3 k) (n1:SqK p s.heap l1 us) (n2:SqK q s.heap l2 vs) (n3:SqK r s.heap l3 ws) (kend:us[k]? = none ∨ vs[k]? = none ∨ ws[k]? = none)
  (kE:∀ h' e,(∀ c o,c ≠ z → c ≠ TO → c ≠ i1 → c ≠ i2 → c ≠ i3 → s.heap.get? c = some o → h'.get? c = some o) → (∃ o,h'.get? e = some o ∧ o.cls = .type "StopIteration") → E (.ref e) { s with heap:=h' }) :
  wpAny (model prog w) A (Builtin.«zip.__next__» ⟨[.ref z],[]⟩) Q E s:=by
 obtain ⟨o1,o2,o3,o4,o5,a1,a2,a3⟩:=D
 show wpAny _ _ (field (.ref z) 2 >>= _) _ _ _
 refine wpAny_bind (wpAny_field kz rfl (x:=.bool false) rfl ?_)
 show wpAny _ _ (field (.ref z) 3 >>= _) _ _ _
 refine wpAny_bind (wpAny_field kz rfl (x:=.ref TI) rfl ?_)
 refine wpAny_bind (wpAny_seqItems kTI rfl ?_)
 show wpAny _ _ (Builtin.SmallTypes.ownedTupleIsFree (.ref z) >>= _) _ _ _
 refine wpAny_bind (own_free kz kf ?_ fun g₁ f kz₁ ks₁=>?_)
 ·simp only [if_true]
  refine wpAny_bind (wpAny_rule ?_)
  refine wpAny_bind (wpAny_field kz rfl (x:=.ref TO) rfl ?_)
  refine wpAny_bind (wpAny_setField_rec kz (by simp) fun g₁ kz₁ ks₁=>?_)
  replace kz₁:Z3 g₁ z TI TO .ellipsis f1:=kz₁
  refine wpAny_bind ?_
  simp only [List.zipIdx_cons,List.zipIdx_nil,List.forIn_cons,List.forIn_nil]
  refine wpAny_bind (wpAny_bind (wpAny_onRaise ?_))
  show wpAny _ _ (Builtin.SmallTypes.nextOf (.ref i1) >>= _) _ _ _
  cases kx:us[k]? with
  | none =>
   refine wpAny_bind (nextK_end kh (m1.extBut ks₁.extBut (nelt (by omega))) (n1.extBut ks₁.extBut (nelt (by omega))) kx fun g₂ e ks₂ ke=>?_)
   obtain ⟨ox,koe,kce⟩:=ke
   have kz₂:Z3 g₂ z TI TO .ellipsis f1:=ks₂ _ _ (nelt (by omega)) kz₁
   have kez:e ≠ z:=fun x=>by subst x;rw [kz₂] at koe;cases koe;simp at kce
   exact wpAny_setField_rec kz₂ (by simp) fun g₃ _ ks₃=>kE g₃ e (fun c o c1 _ c3 _ _ x=>ks₃.extBut _ _ c1 (ks₂ _ _ c3 (ks₁.extBut _ _ c1 x))) ⟨ox,ks₃.extBut _ _ kez koe,kce⟩
  | some x =>
   refine wpAny_bind (nextK_item (m1.extBut ks₁.extBut (nelt (by omega))) (n1.extBut ks₁.extBut (nelt (by omega))) kx fun g₂ m1₂ ks₂=>wpAny_pure ?_)
   have kT₂:Tr g₂ TO a b c:=ks₂.extBut _ _ (nelt (by omega)) (ks₁.extBut _ _ (nelt (by omega)) kTO)
   refine wpAny_bind (wpAny_seqItems kT₂ rfl ?_)
   refine wpAny_bind (upd_tr kT₂ fun g₃ kT₃ ks₃=>?_)
   replace kT₃:Tr g₃ TO x b c:=kT₃
   refine wpAny_bind (wpAny_letGo (wpAny_pure ?_))
   refine wpAny_bind (wpAny_bind (wpAny_onRaise ?_))
   show wpAny _ _ (Builtin.SmallTypes.nextOf (.ref i2) >>= _) _ _ _
   have m2':=((m2.extBut ks₁.extBut (nelt (by omega))).extBut ks₂.extBut (nelt (by omega))).extBut ks₃.extBut (nelt (by omega))
   have n2':=((n2.extBut ks₁.extBut (nelt (by omega))).extBut ks₂.extBut (nelt (by omega))).extBut ks₃.extBut (nelt (by omega))
   have kz₃:Z3 g₃ z TI TO .ellipsis f1:=ks₃.extBut _ _ (nelt (by omega)) (ks₂.extBut _ _ (nelt (by omega)) kz₁)
   have keep₃:∀ c o,c ≠ z → c ≠ TO → c ≠ i1 → c ≠ i2 → c ≠ i3 → s.heap.get? c = some o → g₃.get? c = some o:=fun c o c1 c2 c3 _ _ x=>ks₃.extBut _ _ c2 (ks₂.extBut _ _ c3 (ks₁.extBut _ _ c1 x))
   cases ky:vs[k]? with
   | none =>
    refine wpAny_bind (nextK_end kh m2' n2' ky fun g₄ e ks₄ ke=>?_)
    obtain ⟨ox,koe,kce⟩:=ke
    have kz₄:Z3 g₄ z TI TO .ellipsis f1:=ks₄ _ _ (nelt (by omega)) kz₃
    have kez:e ≠ z:=fun x=>by subst x;rw [kz₄] at koe;cases koe;simp at kce
    exact wpAny_setField_rec kz₄ (by simp) fun g₅ _ ks₅=>kE g₅ e (fun c o c1 c2 c3 c4 c5 x=>ks₅.extBut _ _ c1 (ks₄ _ _ c4 (keep₃ c o c1 c2 c3 c4 c5 x))) ⟨ox,ks₅.extBut _ _ kez koe,kce⟩
   | some y =>
    have ku:ws[k]? = none:=by
     rcases kend with h | h | h
     ·rw [kx] at h;cases h
     ·rw [ky] at h;cases h
     ·exact h
    refine wpAny_bind (nextK_item m2' n2' ky fun g₄ m2₄ ks₄=>wpAny_pure ?_)
    have kT₄:Tr g₄ TO x b c:=ks₄.extBut _ _ (nelt (by omega)) kT₃
    refine wpAny_bind (wpAny_seqItems kT₄ rfl ?_)
    refine wpAny_bind (upd_tr kT₄ fun g₅ kT₅ ks₅=>?_)
    refine wpAny_bind (wpAny_letGo (wpAny_pure ?_))
    refine wpAny_bind (wpAny_bind (wpAny_onRaise ?_))
    show wpAny _ _ (Builtin.SmallTypes.nextOf (.ref i3) >>= _) _ _ _
    refine wpAny_bind (nextK_end kh (((((m3.extBut ks₁.extBut (nelt (by omega))).extBut ks₂.extBut (nelt (by omega))).extBut ks₃.extBut (nelt (by omega))).extBut ks₄.extBut (nelt (by omega))).extBut ks₅.extBut (nelt (by omega))) (((((n3.extBut ks₁.extBut (nelt (by omega))).extBut ks₂.extBut (nelt (by omega))).extBut ks₃.extBut (nelt (by omega))).extBut ks₄.extBut (nelt (by omega))).extBut ks₅.extBut (nelt (by omega))) ku fun g₆ e ks₆ ke=>?_)
    obtain ⟨ox,koe,kce⟩:=ke
    have kz₆:Z3 g₆ z TI TO .ellipsis f1:=ks₆ _ _ (nelt (by omega)) (ks₅.extBut _ _ (nelt (by omega)) (ks₄.extBut _ _ (nelt (by omega)) kz₃))
    have kez:e ≠ z:=fun x=>by subst x;rw [kz₆] at koe;cases koe;simp at kce
    exact wpAny_setField_rec kz₆ (by simp) fun g₇ _ ks₇=>kE g₇ e (fun c o c1 c2 c3 c4 c5 x=>ks₇.extBut _ _ c1 (ks₆ _ _ c5 (ks₅.extBut _ _ c2 (ks₄.extBut _ _ c4 (keep₃ c o c1 c2 c3 c4 c5 x))))) ⟨ox,ks₇.extBut _ _ kez koe,kce⟩
 ·simp only [Bool.false_eq_true,if_false]
  rw [← Array.forIn_toList]
  simp only [List.forIn_cons,List.forIn_nil]
  refine wpAny_bind (wpAny_bind (wpAny_bind (wpAny_holding ?_)))
  show wpAny _ _ (Builtin.SmallTypes.nextOf (.ref i1) >>= _) _ _ _
  cases kx:us[k]? with
  | none =>
   refine wpAny_bind (nextK_end kh (m1.extBut ks₁.extBut (nelt (by omega))) (n1.extBut ks₁.extBut (nelt (by omega))) kx fun g₂ e ks₂ ke=>?_)
   exact kE g₂ e (fun c o c1 _ c3 _ _ x=>ks₂ _ _ c3 (ks₁.extBut _ _ c1 x)) ke
  | some x =>
   refine wpAny_bind (nextK_item (m1.extBut ks₁.extBut (nelt (by omega))) (n1.extBut ks₁.extBut (nelt (by omega))) kx fun g₂ m1₂ ks₂=>wpAny_pure (wpAny_pure ?_))
   refine wpAny_bind (wpAny_bind (wpAny_holding ?_))
   show wpAny _ _ (Builtin.SmallTypes.nextOf (.ref i2) >>= _) _ _ _
   have m2':=(m2.extBut ks₁.extBut (nelt (by omega))).extBut ks₂.extBut (nelt (by omega))
   have n2':=(n2.extBut ks₁.extBut (nelt (by omega))).extBut ks₂.extBut (nelt (by omega))
   cases ky:vs[k]? with
   | none =>
    refine wpAny_bind (nextK_end kh m2' n2' ky fun g₃ e ks₃ ke=>?_)
    exact kE g₃ e (fun c o c1 _ c3 c4 _ x=>ks₃ _ _ c4 (ks₂.extBut _ _ c3 (ks₁.extBut _ _ c1 x))) ke
   | some y =>
    have ku:ws[k]? = none:=by
     rcases kend with h | h | h
     ·rw [kx] at h;cases h
     ·rw [ky] at h;cases h
     ·exact h
    refine wpAny_bind (nextK_item m2' n2' ky fun g₃ m2₃ ks₃=>wpAny_pure (wpAny_pure ?_))
    refine wpAny_bind (wpAny_bind (wpAny_holding ?_))
    show wpAny _ _ (Builtin.SmallTypes.nextOf (.ref i3) >>= _) _ _ _
    refine wpAny_bind (nextK_end kh (((m3.extBut ks₁.extBut (nelt (by omega))).extBut ks₂.extBut (nelt (by omega))).extBut ks₃.extBut (nelt (by omega))) (((n3.extBut ks₁.extBut (nelt (by omega))).extBut ks₂.extBut (nelt (by omega))).extBut ks₃.extBut (nelt (by omega))) ku fun g₄ e ks₄ ke=>?_)
    exact kE g₄ e (fun c o c1 _ c3 c4 c5 x=>ks₄ _ _ c5 (ks₃.extBut _ _ c4 (ks₂.extBut _ _ c3 (ks₁.extBut _ _ c1 x)))) ke
theorem z3_item {p q r:Bool} {z TI TO i1 i2 i3 l1 l2 l3:Addr} {k:Nat} {us vs ws:Array Value} {x y u a b c f0 f1:Value} {Q:Option Value → Shared → Prop} (D:Ap3 z TI TO i1 i2 i3 l1 l2 l3)
  (kz:Z3 s.heap z TI TO f0 f1) (kf:Mk3 f0) (kTI:Tr s.heap TI (.ref i1) (.ref i2) (.ref i3)) (kTO:Tr s.heap TO a b c)
  (m1:ItK p s.heap i1 l1 k) (m2:ItK q s.heap i2 l2 k) (m3:ItK r s.heap i3 l3 k) (n1:SqK p s.heap l1 us) (n2:SqK q s.heap l2 vs) (n3:SqK r s.heap l3 ws) (kx:us[k]? = some x) (ky:vs[k]? = some y) (ku:ws[k]? = some u)
  (kQ:∀ h' f0' f1',Z3 h' z TI TO f0' f1' → Mk3 f0' → (∃ a b c,Tr h' TO a b c) → ItK p h' i1 l1 (k + 1) → ItK q h' i2 l2 (k + 1) → ItK r h' i3 l3 (k + 1) → Tr h' s.heap.objs.size x y u →
   (∀ c o,c ≠ z → c ≠ TO → c ≠ i1 → c ≠ i2 → c ≠ i3 → s.heap.get? c = some o → h'.get? c = some o) → Q (some (.ref s.heap.objs.size)) { s with heap:=h' }) :
  wpAny (model prog w) A (pyNext (.ref z)) Q E s:=by
 have kT:s.TypeIs (.ref z) "zip" := ⟨_,kz,rfl⟩
 unfold pyNext
 exact wpAny_bind (wpAny_attempt (wpAny_callSpecial?_slot (name:=Str.ofString "__next__") kT F.slot_zip_next
  (wpAny_call_entry F.slot_zip_next kT F.entry_zip_next
   (z3_next D kz kf kTI kTO m1 m2 m3 n1 n2 n3 kx ky ku fun h' f0' f1' b1 b2 b3 b4 b5 b6 b7 b8=>wpAny_pure (kQ h' f0' f1' b1 b2 b3 b4 b5 b6 b7 b8)) (F.args_zip_next_1 _))))
theorem z3_end {p q r:Bool} {z TI TO i1 i2 i3 l1 l2 l3:Addr} {k:Nat} {us vs ws:Array Value} {a b c f0 f1:Value} {Q:Option Value → Shared → Prop} (kh:A.handled = none) (D:Ap3 z TI TO i1 i2 i3 l1 l2 l3)
  (kz:Z3 s.heap z TI TO f0 f1) (kf:Mk3 f0) (kTI:Tr s.heap TI (.ref i1) (.ref i2) (.ref i3)) (kTO:Tr s.heap TO a b c)
  (m1:ItK p s.heap i1 l1 k) (m2:ItK q s.heap i2 l2 k) (m3:ItK r s.heap i3 l3 k) (n1:SqK p s.heap l1 us) (n2:SqK q s.heap l2 vs) (n3:SqK r s.heap l3 ws) (kend:us[k]? = none ∨ vs[k]? = none ∨ ws[k]? = none)
  (kQ:∀ h',(∀ c o,c ≠ z → c ≠ TO → c ≠ i1 → c ≠ i2 → c ≠ i3 → s.heap.get? c = some o → h'.get? c = some o) → Q none { s with heap:=h' }):wpAny (model prog w) A (pyNext (.ref z)) Q E s:=by
 have kT:s.TypeIs (.ref z) "zip" := ⟨_,kz,rfl⟩
 unfold pyNext
 refine wpAny_bind (wpAny_attempt (wpAny_callSpecial?_slot (name:=Str.ofString "__next__") kT F.slot_zip_next
  (wpAny_call_entry F.slot_zip_next kT F.entry_zip_next (z3_stop kh D kz kf kTI kTO m1 m2 m3 n1 n2 n3 kend fun h' e kk ke=>?_) (F.args_zip_next_1 _))))
 obtain ⟨o,ho,hc⟩:=ke
 refine wpAny_bind (wpAny_isInstance (T := "StopIteration") (b:=true) ⟨o,ho,hc⟩ isSubtype_stop ?_)
 exact wpAny_pure (kQ _ kk)
theorem z3_self {z TI TO:Addr} {f0 f1:Value} {Q:Value → Shared → Prop} (kz:Z3 s.heap z TI TO f0 f1) (h:Q (.ref z) s):wpAny (model prog w) A (pyIter (.ref z)) Q E s:=by
 have kT:s.TypeIs (.ref z) "zip" := ⟨_,kz,rfl⟩
 refine wpAny_pyIter_slot kT F.slot_zip_iter (wpAny_call_entry F.slot_zip_iter kT F.entry_zip_iter ?_ (F.args_zip_iter_1 _))
 show wpAny _ _ (ret (.ref z)) _ _ s
 exact wpAny_pure ⟨_,rfl, "zip", _,kT,F.slot_zip_next.lookup,h⟩
end
theorem tc_zip3 (a b c:Value):checkTypeCall "zip" ⟨[a,b,c],[]⟩ = pure ():=by kernel_rfl
theorem nc_zip3 (a b c:Value):checkBuiltinCall "zip.__new__" ⟨[.type "zip", a,b,c],[]⟩ = pure ():=by kernel_rfl
theorem oi_4 (a b c d:Value):argsOk "object.__init__" ⟨[a,b,c,d],[]⟩:=by
 have e:=signature?_of (id := "object.__init__") (o:=['t','c','e','j','b','o']) (n:=['_','_','t','i','n','i','_','_']) (by kernel_rfl) PySem.F.owner_object
 unfold argsOk
 rw [e]
 kernel_rfl
abbrev j1 (p:Bool) (h:Heap) (l1:Addr):Heap:=h.push (itObj p l1)
abbrev j2 (p q:Bool) (h:Heap) (l1 l2:Addr):Heap:=(j1 p h l1).push (itObj q l2)
abbrev j3 (p q r:Bool) (h:Heap) (l1 l2 l3:Addr):Heap:=(j2 p q h l1 l2).push (itObj r l3)
abbrev j4 (p q r:Bool) (h:Heap) (l1 l2 l3:Addr):Heap:=(j3 p q r h l1 l2 l3).push { cls:=.type "tuple", data:=.seq #[.ref h.objs.size,.ref (j1 p h l1).objs.size,.ref (j2 p q h l1 l2).objs.size] }
abbrev j5 (p q r:Bool) (h:Heap) (l1 l2 l3:Addr):Heap:=(j4 p q r h l1 l2 l3).push { cls:=.type "tuple", data:=.seq #[.none,.none,.none] }
abbrev j6 (p q r:Bool) (h:Heap) (l1 l2 l3:Addr):Heap:=(j5 p q r h l1 l2 l3).push { cls:=.type "zip", data:=.fields #[.none,.bool false,.bool false,.ref (j3 p q r h l1 l2 l3).objs.size,.ref (j4 p q r h l1 l2 l3).objs.size] }
theorem meets_z3 (p q r:Bool) (l1 l2 l3:Addr) (us vs ws:Array Value) :
  Meets (Builtin.«zip.__new__» ⟨[.type "zip", .ref l1,.ref l2,.ref l3],[]⟩) (fun _ R s=>SqK p s.heap l1 us ∧ SqK q s.heap l2 vs ∧ SqK r s.heap l3 ws ∧
   R (.ok (.ret (.ref (j5 p q r s.heap l1 l2 l3).objs.size))) { s with heap:=j6 p q r s.heap l1 l2 l3 }) :=
 .of_wp fun prog w A R s h=>by
  obtain ⟨hp,g,d,tk,os⟩:=s
  obtain ⟨n1,n2,n3,h⟩:=h
  have ksub:=sub_zip
  have k1:SqK p (Shared.heap ⟨hp,g,d,tk,os⟩) l1 us:=n1
  have k2:SqK q (Shared.heap ⟨hp.push (itObj p l1),g,d,tk,os⟩) l2 vs:=SqK.push n2 _
  have k3:SqK r (Shared.heap ⟨(hp.push (itObj p l1)).push (itObj q l2),g,d,tk,os⟩) l3 ws:=SqK.push (SqK.push n3 _) _
  wp_walk using iterK k1,iterK k2,iterK k3
  exact ⟨_,rfl,h⟩
section
variable {prog:Program} {w:World} {A:Around} {E:Value → Shared → Prop} {s:Shared}
theorem call_z3 {p q r:Bool} {l1 l2 l3:Addr} {us vs ws:Array Value} {Q:Value → Shared → Prop} (n1:SqK p s.heap l1 us) (n2:SqK q s.heap l2 vs) (n3:SqK r s.heap l3 ws)
  (h:∀ h',Z3 h' (s.heap.objs.size + 5) (s.heap.objs.size + 3) (s.heap.objs.size + 4) .none (.bool false) → Tr h' (s.heap.objs.size + 3) (.ref s.heap.objs.size) (.ref (s.heap.objs.size + 1)) (.ref (s.heap.objs.size + 2)) →
   Tr h' (s.heap.objs.size + 4) .none .none .none → ItK p h' s.heap.objs.size l1 0 → ItK q h' (s.heap.objs.size + 1) l2 0 → ItK r h' (s.heap.objs.size + 2) l3 0 → h'.objs.size = s.heap.objs.size + 6 →
   (∀ c o,s.heap.get? c = some o → h'.get? c = some o) → Q (.ref (s.heap.objs.size + 5)) { s with heap:=h' }) :
  wpAny (model prog w) A (call (.type "zip") [.ref l1,.ref l2,.ref l3]) Q E s:=by
 refine callType_new F.called_zip (by decide) (tc_zip3 _ _ _) (nc_zip3 _ _ _) (fun obj=>oi_4 obj _ _ _) F.entry_zip_new (meets_z3 p q r l1 l2 l3 us vs ws) ⟨n1,n2,n3,?_⟩
 have z1:(j1 p s.heap l1).objs.size = s.heap.objs.size + 1:=Heap.size_push ..
 have z2:(j2 p q s.heap l1 l2).objs.size = s.heap.objs.size + 2:=by rw [Heap.size_push,z1]
 have z3:(j3 p q r s.heap l1 l2 l3).objs.size = s.heap.objs.size + 3:=by rw [Heap.size_push,z2]
 have z4:(j4 p q r s.heap l1 l2 l3).objs.size = s.heap.objs.size + 4:=by rw [Heap.size_push,z3]
 have z5:(j5 p q r s.heap l1 l2 l3).objs.size = s.heap.objs.size + 5:=by rw [Heap.size_push,z4]
 have z6:(j6 p q r s.heap l1 l2 l3).objs.size = s.heap.objs.size + 6:=by rw [Heap.size_push,z5]
 have up1:∀ {c:Addr} {o:Obj},(j5 p q r s.heap l1 l2 l3).get? c = some o → (j6 p q r s.heap l1 l2 l3).get? c = some o:=fun e=>Heap.get?_push_of_some _ e
 have up2:∀ {c:Addr} {o:Obj},(j4 p q r s.heap l1 l2 l3).get? c = some o → (j6 p q r s.heap l1 l2 l3).get? c = some o:=fun e=>up1 (Heap.get?_push_of_some _ e)
 have up3:∀ {c:Addr} {o:Obj},(j3 p q r s.heap l1 l2 l3).get? c = some o → (j6 p q r s.heap l1 l2 l3).get? c = some o:=fun e=>up2 (Heap.get?_push_of_some _ e)
 have up4:∀ {c:Addr} {o:Obj},(j2 p q s.heap l1 l2).get? c = some o → (j6 p q r s.heap l1 l2 l3).get? c = some o:=fun e=>up3 (Heap.get?_push_of_some _ e)
 have up5:∀ {c:Addr} {o:Obj},(j1 p s.heap l1).get? c = some o → (j6 p q r s.heap l1 l2 l3).get? c = some o:=fun e=>up4 (Heap.get?_push_of_some _ e)
 have g6:(j6 p q r s.heap l1 l2 l3).get? (j5 p q r s.heap l1 l2 l3).objs.size = some _:=Heap.get?_push_size _ rfl
 have g5:(j6 p q r s.heap l1 l2 l3).get? (j4 p q r s.heap l1 l2 l3).objs.size = some _:=up1 (Heap.get?_push_size _ rfl)
 have g4:(j6 p q r s.heap l1 l2 l3).get? (j3 p q r s.heap l1 l2 l3).objs.size = some _:=up2 (Heap.get?_push_size _ rfl)
 have g3:(j6 p q r s.heap l1 l2 l3).get? (j2 p q s.heap l1 l2).objs.size = some _:=up3 (Heap.get?_push_size _ rfl)
 have g2:(j6 p q r s.heap l1 l2 l3).get? (j1 p s.heap l1).objs.size = some _:=up4 (Heap.get?_push_size _ rfl)
 have g1:(j6 p q r s.heap l1 l2 l3).get? s.heap.objs.size = some _:=up5 (Heap.get?_push_size _ rfl)
 show _ ∧ _
 rw [z3,z4,z5] at g6
 rw [z1,z2,z3] at g4
 rw [z4] at g5
 rw [z2] at g3
 rw [z1] at g2
 rw [z5]
 exact ⟨⟨_,g6,rfl⟩,h _ g6 g4 g5 (ItK.new g1) (ItK.new g2) (ItK.new g3) z6 fun c o x=>up5 (Heap.get?_push_of_some _ x)⟩
end
end L2
namespace L2
open PySem PySem.Spec PyProof.Rows
def At3 (p q r:Bool) (z TI TO i1 i2 i3 a b c:Addr) (i:Nat) (h:Heap):Prop :=
 ∃ f0 f1 u v w,Z3 h z TI TO f0 f1 ∧ Mk3 f0 ∧ Tr h TI (.ref i1) (.ref i2) (.ref i3) ∧ Tr h TO u v w ∧ ItK p h i1 a i ∧ ItK q h i2 b i ∧ ItK r h i3 c i
theorem At3.obj {p q r:Bool} {z TI TO i1 i2 i3 a b c:Addr} {i:Nat} {h:Heap} (st:At3 p q r z TI TO i1 i2 i3 a b c i h) {x:Addr} (hx:x ∈ [z,TI,TO,i1,i2,i3]):∃ o,h.get? x = some o ∧ ∀ v,o.data ≠ .cell v:=by
 obtain ⟨f0,f1,u,v,w,kz,kf,kTI,kTO,m1,m2,m3⟩:=st
 obtain ⟨o1,_,e1,d1⟩:=m1.flds
 obtain ⟨o2,_,e2,d2⟩:=m2.flds
 obtain ⟨o3,_,e3,d3⟩:=m3.flds
 simp only [List.mem_cons,List.not_mem_nil,or_false] at hx
 rcases hx with rfl | rfl | rfl | rfl | rfl | rfl
 ·exact ⟨_,kz,fun v z=>by cases z⟩
 ·exact ⟨_,kTI,fun v z=>by cases z⟩
 ·exact ⟨_,kTO,fun v z=>by cases z⟩
 ·exact ⟨_,e1,fun v z=>by rw [d1] at z;cases z⟩
 ·exact ⟨_,e2,fun v z=>by rw [d2] at z;cases z⟩
 ·exact ⟨_,e3,fun v z=>by rw [d3] at z;cases z⟩
theorem At3.keep {p q r:Bool} {z TI TO i1 i2 i3 a b c:Addr} {i:Nat} {h h':Heap} (st:At3 p q r z TI TO i1 i2 i3 a b c i h) (k:∀ x ∈ [z,TI,TO,i1,i2,i3],∀ o,h.get? x = some o → h'.get? x = some o):At3 p q r z TI TO i1 i2 i3 a b c i h':=by
 obtain ⟨f0,f1,u,v,w,kz,kf,kTI,kTO,m1,m2,m3⟩:=st
 exact ⟨f0,f1,u,v,w,k z (by simp) _ kz,kf,k TI (by simp) _ kTI,k TO (by simp) _ kTO,m1.at fun o e=>k i1 (by simp) o e,m2.at fun o e=>k i2 (by simp) o e,m3.at fun o e=>k i3 (by simp) o e⟩
section
variable {X:Cx} {B:Around} {pins:List (Addr × Obj)} {σ:St} {H:Hp} {s:Shared} {p q r:Bool} {z TI TO i1 i2 i3 a b c:Addr} {i:Nat}
theorem inv_z3 {Q:Option Value → Shared → Prop} {E:Value → Shared → Prop} {xs ys zs:List V} {x y u:V} (D:Ap3 z TI TO i1 i2 i3 a b c) (I:Inv X pins σ H s) (hf:∀ d ∈ [z,TI,TO,i1,i2,i3],FpOk X pins H d) (st:At3 p q r z TI TO i1 i2 i3 a b c i s.heap) (hqa:SqB X.K p H a xs) (hqb:SqB X.K q H b ys) (hqc:SqB X.K r H c zs) (hx:xs[i]? = some x) (hy:ys[i]? = some y) (hu:zs[i]? = some u)
  (kQ:∀ h' T,T = s.heap.objs.size → H T = none → Inv X pins σ (upd H T (.tup [x,y,u])) { s with heap:=h' } → At3 p q r z TI TO i1 i2 i3 a b c (i + 1) h' → (∀ d o,d ∉ [z,TI,TO,i1,i2,i3] → s.heap.get? d = some o → h'.get? d = some o) → Q (some (.ref T)) { s with heap:=h' }) :
  wpAny (model X.prog X.w) B (pyNext (.ref z)) Q E s:=by
 obtain ⟨f0,f1,u0,v0,w0,kz,kf,kTI,kTO,m1,m2,m3⟩:=st
 obtain ⟨its,rv,pa,za⟩:=I.seqB hqa
 obtain ⟨its2,rv2,pb,zb⟩:=I.seqB hqb
 obtain ⟨its3,rv3,pc,zc⟩:=I.seqB hqc
 obtain ⟨u1,e1,r1⟩:=rv.get hx
 obtain ⟨u2,e2,r2⟩:=rv2.get hy
 obtain ⟨u3,e3,r3⟩:=rv3.get hu
 refine z3_item D kz kf kTI kTO m1 m2 m3 pa pb pc (x:=u1) (y:=u2) (u:=u3) (by simpa using e1) (by simpa using e2) (by simpa using e3) fun h' f0' f1' b1 b2 b3 b4 b5 b6 b7 b8=>?_
 have hT:H s.heap.objs.size = none:=I.hok.fresh (Nat.le_refl _)
 have kp:∀ d o,d ∉ [z,TI,TO,i1,i2,i3] → s.heap.get? d = some o → h'.get? d = some o:=fun d o hd e=>b8 d o (fun q=>hd (by simp [q])) (fun q=>hd (by simp [q])) (fun q=>hd (by simp [q])) (fun q=>hd (by simp [q])) (fun q=>hd (by simp [q])) e
 have kTI':Tr h' TI (.ref i1) (.ref i2) (.ref i3):=by
  obtain ⟨o1,o2,o3,o4,o5,a1,a2,a3⟩:=D
  exact b8 TI _ (nelt (by omega)) (nelt (by omega)) (nelt (by omega)) (nelt (by omega)) (nelt (by omega)) kTI
 obtain ⟨u0',v0',w0',b3⟩:=b3
 refine kQ h' _ rfl hT ?_ ⟨f0',f1',u0',v0',w0',b1,b2,kTI',b3,b4,b5,b6⟩ kp
 refine I.turnNew (fp:=[z,TI,TO,i1,i2,i3]) (t':=s.toks) (fun d ob hb e=>kp d ob hb e) hf (Nat.le_refl _) ?_
 have lt3:(3:Nat) ≤ sizeLine:=by decide
 exact ⟨lt3,[u1,u2,u3],.cons r1 (.cons r2 (.cons r3 .nil)),⟨_,b7,rfl,_,rfl⟩⟩
theorem end_z3 {Q:Option Value → Shared → Prop} {E:Value → Shared → Prop} {xs ys zs:List V} (hc:B.handled = none) (D:Ap3 z TI TO i1 i2 i3 a b c) (I:Inv X pins σ H s) (hf:∀ d ∈ [z,TI,TO,i1,i2,i3],FpOk X pins H d) (st:At3 p q r z TI TO i1 i2 i3 a b c i s.heap) (hqa:SqB X.K p H a xs) (hqb:SqB X.K q H b ys) (hqc:SqB X.K r H c zs) (hx:xs.length ≤ i ∨ ys.length ≤ i ∨ zs.length ≤ i)
  (kQ:∀ h',Inv X pins σ H { s with heap:=h' } → (∀ d o,d ∉ [z,TI,TO,i1,i2,i3] → s.heap.get? d = some o → h'.get? d = some o) → Q none { s with heap:=h' }) :
  wpAny (model X.prog X.w) B (pyNext (.ref z)) Q E s:=by
 obtain ⟨f0,f1,u0,v0,w0,kz,kf,kTI,kTO,m1,m2,m3⟩:=st
 obtain ⟨its,rv,pa,za⟩:=I.seqB hqa
 obtain ⟨its2,rv2,pb,zb⟩:=I.seqB hqb
 obtain ⟨its3,rv3,pc,zc⟩:=I.seqB hqc
 have hl:=rv.length
 have hl2:=rv2.length
 have hl3:=rv3.length
 refine z3_end hc D kz kf kTI kTO m1 m2 m3 pa pb pc (hx.imp (fun q=>by simp;omega) (fun q=>q.imp (fun q=>by simp;omega) (fun q=>by simp;omega))) fun h' hk=>?_
 have kp:∀ d o,d ∉ [z,TI,TO,i1,i2,i3] → s.heap.get? d = some o → h'.get? d = some o:=fun d o hd e=>hk d o (fun q=>hd (by simp [q])) (fun q=>hd (by simp [q])) (fun q=>hd (by simp [q])) (fun q=>hd (by simp [q])) (fun q=>hd (by simp [q])) e
 exact kQ h' (I.turnedL (fp:=[z,TI,TO,i1,i2,i3]) (t':=s.toks) kp hf) kp
end
theorem ap3_new {n a b c:Addr} (h1:@LT.lt Nat _ a n) (h2:@LT.lt Nat _ b n) (h3:@LT.lt Nat _ c n):Ap3 (n + 5) (n + 3) (n + 4) n (n + 1) (n + 2) a b c:=⟨Nat.lt_succ_self _,Nat.lt_succ_self _,Nat.lt_succ_self _,Nat.lt_succ_self _,Nat.lt_succ_self _,h1,h2,h3⟩
theorem call_zip3 {X:Cx} {pins:List (Addr × Obj)} {σ:St} {H:Hp} {s:Shared} {p q r:Bool} {a b c:Addr} {xs ys zs:List V} {Q:Value → Shared → Prop} {E:Value → Shared → Prop} (I:Inv X pins σ H s) (hqa:SqB X.K p H a xs) (hqb:SqB X.K q H b ys) (hqc:SqB X.K r H c zs)
  (k:∀ h' z TI TO i1 i2 i3,Ap3 z TI TO i1 i2 i3 a b c → Inv X pins σ H { s with heap:=h' } → At3 p q r z TI TO i1 i2 i3 a b c 0 h' → (∀ d ∈ [z,TI,TO,i1,i2,i3],FpOk X pins H d) → (∀ d ∈ [z,TI,TO,i1,i2,i3],@LT.lt Nat _ d h'.objs.size) → Q (.ref z) { s with heap:=h' }):wpAny (model X.prog X.w) X.A (call (.type "zip") [.ref a,.ref b,.ref c]) Q E s:=by
 obtain ⟨its,rv,pa,hz⟩:=I.seqB hqa
 obtain ⟨its2,rv2,pb,hz2⟩:=I.seqB hqb
 obtain ⟨its3,rv3,pc,hz3⟩:=I.seqB hqc
 have a1:a < s.heap.objs.size:=by obtain ⟨_,e⟩:=pa.here;exact Heap.lt_size e
 have a2:b < s.heap.objs.size:=by obtain ⟨_,e⟩:=pb.here;exact Heap.lt_size e
 have a3:c < s.heap.objs.size:=by obtain ⟨_,e⟩:=pc.here;exact Heap.lt_size e
 refine call_z3 pa pb pc fun h' gz gTI gTO g1 g2 g3 sz hk=>?_
 have hI:Inv X pins σ H { s with heap:=h' }:=I.kept (t':=s.toks) hk
 refine k h' _ _ _ _ _ _ (ap3_new a1 a2 a3) hI ⟨_,_,_,_,_,gz,.inl rfl,gTI,gTO,g1,g2,g3⟩ (fun d hd=>?_) (fun d hd=>?_)
 ·have hb':s.heap.objs.size ≤ d:=by
   simp only [List.mem_cons,List.not_mem_nil,or_false] at hd
   rcases hd with rfl | rfl | rfl | rfl | rfl | rfl <;> omega
  exact I.fpOk hb' (I.hok.fresh hb')
 ·rw [sz]
  simp only [List.mem_cons,List.not_mem_nil,or_false] at hd
  rcases hd with rfl | rfl | rfl | rfl | rfl | rfl <;> omega
end L2
namespace L2
open PySem PySem.Spec PyProof.Rows
def zip3L:List V → List V → List V → List (V × V × V)
 | x :: xs,y :: ys,u :: us=>(x,y,u) :: zip3L xs ys us
 | _,_,_=>[]
theorem zip3L_get:∀ {xs ys us:List V} {i:Nat} {x y u:V},(zip3L xs ys us)[i]? = some (x,y,u) → xs[i]? = some x ∧ ys[i]? = some y ∧ us[i]? = some u
 | [],_,_,_,_,_,_,h=>by simp [zip3L] at h
 | _ :: _,[],_,_,_,_,_,h=>by simp [zip3L] at h
 | _ :: _,_ :: _,[],_,_,_,_,h=>by simp [zip3L] at h
 | _ :: _,_ :: _,_ :: _,0,_,_,_,h=>by simp [zip3L] at h;obtain ⟨rfl,rfl,rfl⟩:=h;simp
 | _ :: xs,_ :: ys,_ :: us,i + 1,_,_,_,h=>by
  have:=zip3L_get (xs:=xs) (ys:=ys) (us:=us) (i:=i) (by simpa [zip3L] using h)
  simpa using this
theorem zip3L_end:∀ (xs ys us:List V),xs.length ≤ (zip3L xs ys us).length ∨ ys.length ≤ (zip3L xs ys us).length ∨ us.length ≤ (zip3L xs ys us).length
 | [],_,_=>.inl (by simp)
 | _ :: _,[],_=>.inr (.inl (by simp))
 | _ :: _,_ :: _,[]=>.inr (.inr (by simp))
 | _ :: xs,_ :: ys,_ :: us=>by
  have:=zip3L_end xs ys us
  simp [zip3L]
  exact this
theorem zip3L_le:∀ (xs ys us:List V),(zip3L xs ys us).length ≤ xs.length
 | [],_,_=>by simp [zip3L]
 | _ :: _,[],_=>by simp [zip3L]
 | _ :: _,_ :: _,[]=>by simp [zip3L]
 | _ :: xs,_ :: ys,_ :: us=>by
  have:=zip3L_le xs ys us
  simp [zip3L]
  exact this
inductive Lay3 (H:Hp):List (V × V × V) → List Addr → Hp → Prop
 | nil:Lay3 H [] [] H
 | snoc {ts:List (V × V × V)} {as:List Addr} {H':Hp} {T:Addr} {x y u:V} (h:Lay3 H ts as H') (hT:H' T = none):Lay3 H (ts ++ [(x,y,u)]) (as ++ [T]) (upd H' T (.tup [x,y,u]))
theorem Lay3.same {H H':Hp} {ts:List (V × V × V)} {as:List Addr} (h:Lay3 H ts as H'):Same H H':=by
 induction h with
 | nil=>exact fun _ _ e=>e
 | snoc h hT ih=>exact fun b o e=>(by
   have e':=ih b o e
   rw [upd_ne (fun q=>by subst q;rw [hT] at e';cases e')]
   exact e')
theorem upd_swap {H:Hp} {S T:Addr} {o o':HO} (h:S ≠ T):upd (upd H S o) T o' = upd (upd H T o') S o:=by
 funext b
 by_cases h1:b = S
 ·subst h1;rw [upd_ne h,upd_same,upd_same]
 ·by_cases h2:b = T
  ·subst h2;rw [upd_same,upd_ne h1,upd_same]
  ·rw [upd_ne h2,upd_ne h1,upd_ne h1,upd_ne h2]
theorem upd_twice {H:Hp} {S:Addr} {o o':HO}:upd (upd H S o) S o' = upd H S o':=by
 funext b
 by_cases h1:b = S
 ·subst h1;rw [upd_same,upd_same]
 ·rw [upd_ne h1,upd_ne h1,upd_ne h1]
theorem sqb_same {K:PySem.W.Frag} {H H':Hp} {p:Bool} {a:Addr} {xs:List V} (e:Same H H') (h:SqB K p H a xs):SqB K p H' a xs:=by
 cases p
 ·exact Same.seq e h
 ·rcases (show SqT K H a xs from h) with (h | ⟨o,h⟩) | h
  ·exact .inl (.inl (e _ _ h))
  ·exact .inl (.inr ⟨o,e _ _ h⟩)
  ·exact .inr h
theorem same_upd' {H:Hp} {S:Addr} {o:HO} (h:H S = none):Same H (upd H S o):=fun b u e=>by
 rw [upd_ne (fun q=>by subst q;rw [h] at e;cases e)]
 exact e
section
variable {X:Cx} {pins:List (Addr × Obj)} {σ:St} {H:Hp} {p q r:Bool} {z TI TO i1 i2 i3 a b c S:Addr} {xs ys us:List V}
theorem lz_loop {B:Around} {R:Result → Shared → Prop} (kh:B.in1.handled = none) (D:Ap3 z TI TO i1 i2 i3 a b c) (hqa:SqB X.K p H a xs) (hqb:SqB X.K q H b ys) (hqc:SqB X.K r H c us) (hS:S ∉ [z,TI,TO,i1,i2,i3])
  (kR:∀ s' as H',Inv X pins σ (upd H' S (.lst (as.map V.ref))) s' → H' S = none → Lay3 H (zip3L xs ys us) as H' → R (.ok (.ret .none)) s') :
  ∀ (k i:Nat) (s:Shared) (H':Hp) (as:List Addr),i + k = (zip3L xs ys us).length → Inv X pins σ (upd H' S (.lst (as.map V.ref))) s → H' S = none → Lay3 H ((zip3L xs ys us).take i) as H' → At3 p q r z TI TO i1 i2 i3 a b c i s.heap → as.length = i → (∀ d ∈ [z,TI,TO,i1,i2,i3],FpOk X pins (upd H' S (.lst (as.map V.ref))) d) →
   codeAny (model X.prog X.w) B (.builtin "list.extend.loop" ⟨[.ref S,.ref z,.none],[]⟩) R s:=by
 intro k
 induction k with
 | zero =>
  intro i s H' as hk I hS' L st la hf
  have sm:Same H (upd H' S (.lst (as.map V.ref))):=fun b o e=>same_upd' hS' b o (L.same b o e)
  refine codeAny_builtin F.entry_extend_loop ?_
  rw [Around.under_plainId F.plain_extend_loop _]
  show wpAny _ B.in1 (pyNext (.ref z) >>= _) _ _ s
  refine wpAny_bind (end_z3 kh D I hf st (sqb_same sm hqa) (sqb_same sm hqb) (sqb_same sm hqc) (by have:=zip3L_end xs ys us;omega) fun h' I' _=>?_)
  refine wpAny_pure (kR _ as H' I' hS' ?_)
  rw [show i = (zip3L xs ys us).length by omega,List.take_length] at L
  exact L
 | succ k ih =>
  intro i s H' as hk I hS' L st la hf
  have sm:Same H (upd H' S (.lst (as.map V.ref))):=fun b o e=>same_upd' hS' b o (L.same b o e)
  have hi:i < (zip3L xs ys us).length:=by omega
  obtain ⟨⟨x,y,u⟩,et⟩ : ∃ t,(zip3L xs ys us)[i]? = some t:=⟨_,List.getElem?_eq_getElem hi⟩
  obtain ⟨e1,e2,e3⟩:=zip3L_get et
  refine codeAny_builtin F.entry_extend_loop ?_
  rw [Around.under_plainId F.plain_extend_loop _]
  show wpAny _ B.in1 (pyNext (.ref z) >>= _) _ _ s
  refine wpAny_bind (inv_z3 D I hf st (sqb_same sm hqa) (sqb_same sm hqb) (sqb_same sm hqc) e1 e2 e3 fun h' T eT hT I2 st2 kp=>?_)
  have hl:as.length < sizeLine:=by
   obtain ⟨_,_,_,hz⟩:=I.seqB (sqb_same sm hqa)
   have:=zip3L_le xs ys us
   omega
  have ST:S ≠ T:=fun q=>by subst q;rw [upd_same] at hT;cases hT
  have hT':H' T = none:=by rw [upd_ne (Ne.symm ST)] at hT;exact hT
  rw [upd_swap ST] at I2
  have hH:(upd (upd H' T (.tup [x,y,u])) S (.lst (as.map V.ref))) S = some (.lst (as.map V.ref)):=upd_same
  obtain ⟨zz,its,n,rr,hlen,e⟩:=I2.lstM hH
  have hlen':its.length = as.length:=by rw [← hlen,List.length_map]
  show wpAny _ B.in1 (updateSeq S (·.push (.ref T)) >>= _) _ _ _
  refine wpAny_bind ?_
  refine wpAny_updateSeq e rfl (wpAny_pure ⟨plainId_quiet F.plain_extend_loop _,?_⟩) (by rw [List.size_toArray];omega) (by show (its.toArray.push _).size ≤ sizeLine + 1;rw [Array.size_push,List.size_toArray];omega)
  have I3:=I2.lset (f:=(·.push (.ref T))) (t':=s.toks) (ys:=as.map V.ref ++ [.ref T]) (its':=its ++ [.ref T]) hH e (by simp) (rr.append (.cons (show RelV (.ref T) (.ref T) from rfl) .nil)) (by rw [List.length_append,List.length_map,List.length_singleton];omega)
  rw [upd_twice] at I3
  refine ih (i + 1) _ (upd H' T (.tup [x,y,u])) (as ++ [T]) (by omega) ?_ ?_ ?_ ?_ ?_ ?_
  ·rw [List.map_append];exact I3
  ·rw [upd_ne ST];exact hS'
  ·rw [List.take_add_one,et];exact .snoc L hT'
  ·exact st2.keep fun d hd o e=>(Heap.get?_update_other _ _ (fun h=>hS (by rw [h];exact hd))).trans e
  ·rw [List.length_append,la];rfl
  ·intro d hd
   have dS:d ≠ S:=fun q=>hS (by rw [← q];exact hd)
   have dT:d ≠ T:=by
    obtain ⟨o,ho,_⟩:=st.obj hd
    rw [eT]
    exact Nat.ne_of_lt (Heap.lt_size ho)
   have z:=hf d hd
   refine ⟨?_,z.2⟩
   rw [upd_ne dS,upd_ne dT]
   have z1:=z.1
   rw [upd_ne dS] at z1
   exact z1
theorem zip_len0:typeLookup (.type "zip") "__len__" = pure none:=by rw [typeLookup_type,builtinLookup_eq_fast];kernel_rfl
theorem zip_hint0:typeLookup (.type "zip") "__length_hint__" = pure none:=by rw [typeLookup_type,builtinLookup_eq_fast];kernel_rfl
theorem list_z3 {s:Shared} {Q:Value → Shared → Prop} {E:Value → Shared → Prop} (hc:X.calm = true) (D:Ap3 z TI TO i1 i2 i3 a b c) (I:Inv X pins σ H s) (st:At3 p q r z TI TO i1 i2 i3 a b c 0 s.heap) (hf:∀ d ∈ [z,TI,TO,i1,i2,i3],FpOk X pins H d) (hqa:SqB X.K p H a xs) (hqb:SqB X.K q H b ys) (hqc:SqB X.K r H c us)
  (kQ:∀ s' S as H',Inv X pins σ (upd H' S (.lst (as.map V.ref))) s' → H' S = none → Lay3 H (zip3L xs ys us) as H' → Q (.ref S) s'):wpAny (model X.prog X.w) X.A (call (.type "list") [.ref z]) Q E s:=by
 have lt:∀ d ∈ [z,TI,TO,i1,i2,i3],d ≠ s.heap.objs.size:=fun d hd=>by
  obtain ⟨o,ho,_⟩:=st.obj hd
  exact Nat.ne_of_lt (Heap.lt_size ho)
 have zin:z ∈ [z,TI,TO,i1,i2,i3]:=by simp
 refine callType_codes (Q₁:=fun obj s₁=>obj = .ref s.heap.objs.size ∧ s₁ = { s with heap:=s.heap.push { cls:=.type "list", data:=.seq #[] } }) F.called_list (F.typeCall_list_1 _) F.entry_list_init
  (code_list_new _ ⟨rfl,rfl⟩) fun obj s₁ hq=>?_
 obtain ⟨rfl,rfl⟩:=hq
 have hS0:H s.heap.objs.size = none:=I.fresh
 have I1:Inv X pins σ (upd H s.heap.objs.size (.lst [])) { s with heap:=s.heap.push { cls:=.type "list", data:=.seq #[] } }:=I.lnew (its:=[]) (t':=s.toks) .nil (Nat.zero_le _)
 have st1:At3 p q r z TI TO i1 i2 i3 a b c 0 (s.heap.push { cls:=.type "list", data:=.seq #[] }):=st.keep fun d _ o e=>Heap.get?_push_of_some _ e
 generalize hsz:s.heap.objs.size = S at *
 have kS:(s.heap.push { cls:=.type "list", data:=.seq #[] }).get? S = some { cls:=.type "list", data:=.seq #[] }:=by rw [← hsz];exact Heap.get?_push_size _ rfl
 generalize s.heap.push { cls:=.type "list", data:=.seq #[] } = g at *
 refine ⟨⟨_,kS,rfl⟩,F.args_list_init_2 _ _,?_⟩
 show wpAny _ X.A.in1.in1 (do let old ← Builtin.List.listItems (.ref S);Builtin.List.listUpdate (.ref S) (fun _=>#[]);letGo old.toList.reverse;Builtin.List.listExtendWith (.ref S) (.ref z) .none) _ _ _
 refine wpAny_bind ?_
 unfold Builtin.List.listItems
 refine wpAny_bind (wpAny_seqItems kS rfl (wpAny_pure ?_))
 show wpAny _ X.A.in1.in1 (updateSeq S (fun _=>#[]) >>= fun _=>letGo (#[]:Array Value).toList.reverse >>= fun _=>Builtin.List.listExtendWith (.ref S) (.ref z) .none) _ _ _
 refine wpAny_bind (wpAny_updateSeq kS rfl ?_)
 have I2:=I1.lset (f:=fun _=>#[]) (t':=s.toks) (its:=[]) (its':=[]) (ys:=[]) (n:=0) upd_same kS rfl .nil (Nat.zero_le _)
 rw [upd_twice] at I2
 have st2:At3 p q r z TI TO i1 i2 i3 a b c 0 (g.update S (Obj.mapSeq fun _=>#[])):=st1.keep fun d hd o e=>(Heap.get?_update_other _ _ (fun h=>lt d hd h.symm)).trans e
 have kS2:=Heap.get?_update_self (Obj.mapSeq (fun _=>(#[]:Array Value))) kS rfl
 generalize g.update S (Obj.mapSeq fun _=>#[]) = g2 at *
 refine wpAny_bind (wpAny_letGo ?_)
 unfold Builtin.List.listExtendWith
 obtain ⟨f0,f1,u0,v0,w0,kz,_⟩:=id st2
 have kT:(Shared.TypeIs { s with heap:=g2 } (.ref z) "zip"):=⟨_,kz,rfl⟩
 refine wpAny_bind (wpAny_typeOf kT ?_)
 have zS:S ≠ z:=fun h=>lt z zin h.symm
 have h1:Builtin.List.listSameRef (.ref S) (.ref z) = false:=by simp [Builtin.List.listSameRef,zS]
 have h2:(Value.type "zip" == Value.type "list") = false:=by decide
 have h3:(Value.type "zip" == Value.type "tuple") = false:=by decide
 simp only [h1,h2,h3,Bool.or_false,Bool.false_eq_true,if_false]
 refine wpAny_bind (z3_self kz ?_)
 refine wpAny_bind (wpAny_holding ?_)
 unfold Builtin.List.listLengthHint
 refine wpAny_bind (wpAny_specialOf kT zip_len0 ?_)
 show wpAny _ X.A.in1.in1 (specialOf (Value.ref z) (Str.ofString "__length_hint__") >>= _) _ _ _
 refine wpAny_bind (wpAny_specialOf kT zip_hint0 ?_)
 refine wpAny_pure ?_
 show wpAny _ X.A.in1.in1 (rule "list.extend.makes-room" >>= fun _=>Builtin.List.listTouch (.ref S) >>= fun _=>again (.builtin "list.extend.loop" ⟨[.ref S,.ref z,.none],[]⟩)) _ _ _
 refine wpAny_bind (wpAny_rule ?_)
 refine wpAny_bind ?_
 show wpAny _ X.A.in1.in1 (updateSeq S (·.push .none) >>= fun _=>updateSeq S (·.pop)) _ _ _
 refine wpAny_bind (wpAny_updateSeq kS2 rfl ?_)
 have kS3:=Heap.get?_update_self (Obj.mapSeq (·.push Value.none)) kS2 rfl
 refine wpAny_updateSeq (hz:=by seq_fits) kS3 rfl ?_
 have I3:=I2.lset (f:=(·.push Value.none)) (t':=s.toks) (its:=[]) (its':=[.none]) (ys:=[.non]) upd_same kS2 rfl (.cons (show RelV .non .none from rfl) .nil) (by show (1:Nat) ≤ sizeLine;decide)
 rw [upd_twice] at I3
 have I4:=I3.lset (f:=(·.pop)) (t':=s.toks) (its:=[.none]) (its':=[]) (ys:=[]) upd_same kS3 rfl .nil (Nat.zero_le _)
 rw [upd_twice] at I4
 have st4:At3 p q r z TI TO i1 i2 i3 a b c 0 ((g2.update S (Obj.mapSeq (·.push Value.none))).update S (Obj.mapSeq (·.pop))):=st2.keep fun d hd o e=>(Heap.get?_update_other _ _ (fun h=>lt d hd h.symm)).trans ((Heap.get?_update_other _ _ (fun h=>lt d hd h.symm)).trans e)
 refine wpAny_pure ⟨plainId_quiet F.plain_extend_loop _,?_⟩
 refine lz_loop (B:=X.A.in1) (I.ok.hd hc) D hqa hqb hqc (fun h=>lt S h rfl) (fun s' as H' I' e L=>⟨rfl,kQ s' S as H' I' e L⟩) (zip3L xs ys us).length 0 _ H [] (by omega) I4 hS0 .nil st4 rfl fun d hd=>?_
 have z:=hf d hd
 exact ⟨by rw [upd_ne (lt d hd)];exact z.1,z.2⟩
end
section
variable {X:Cx}
def tLZ (K:PySem.W.Frag) (ta:TA):TE:=fun σ H Q=>ta σ H fun vs H1=>∃ p q r a b c xs ys us,vs = [.ref a,.ref b,.ref c] ∧ SqB K p H1 a xs ∧ SqB K q H1 b ys ∧ SqB K r H1 c us ∧ ∀ S as H',H' S = none → Lay3 H1 (zip3L xs ys us) as H' → Q (.ref S) (upd H' S (.lst (as.map V.ref)))
theorem pe_lz {a b c:Expr} {ta:TA} {np lp pos pos':Pos} (hc:X.calm = true) (hg:Gl X "zip") (hm:X.mg "zip" = none) (hgl:Gl X "list") (hml:X.mg "list" = none) (ha:PA X [a,b,c] ta) (hs:starEach [a,b,c] X.env = [(false,eval a X.env),(false,eval b X.env),(false,eval c X.env)]:=by rfl) (hs2:starEach [b,c] X.env = [(false,eval b X.env),(false,eval c X.env)]:=by rfl)
  (hs3:starEach [.Call (.Name "zip" np) [a,b,c] [] pos] X.env = (false,eval (.Call (.Name "zip" np) [a,b,c] [] pos) X.env) :: starEach [] X.env:=by rfl) :
  PE X (.Call (.Name "list" lp) [.Call (.Name "zip" np) [a,b,c] [] pos] [] pos') (tLZ X.K ta):=by
 intro pins s σ H Q I h
 refine Call_ (ld_blt I hgl hml bt_list (PyProof.Rows.callWith_type1 ?_ hs3 rfl))
 rw [hs3]
 show wpAny _ _ (spliced ((false,eval (.Call (.Name "zip" np) [a,b,c] [] pos) X.env) :: backTo pos' (starEach [] X.env))) _ _ s
 refine Calls.spliced_cons ?_
 refine Call_ (ld_blt I hg hm bt_zip (PyProof.Rows.callWith_type1 (thn (ha pos pins s σ H _ I h) fun vs0 s1 ⟨vs,H1,I1,r1,q1⟩=>?_) (by rw [hs,hs2]) (by rw [hs2];rfl)))
 obtain ⟨κ,μ,ν,l,m,n,xs,ys,us,e,hqa,hqb,hqc,q⟩:=q1
 subst e
 cases r1 with
 | cons r rr =>
  cases rr with
  | cons r' rr =>
   cases rr with
   | cons r'' rr =>
    cases rr
    cases r
    cases r'
    cases r''
    refine call_zip3 I1 hqa hqb hqc fun h' z TI TO i1 i2 i3 D hI st hfp _=>?_
    refine Calls.spliced_nil ?_
    exact list_z3 hc D hI st hfp hqa hqb hqc fun s' S as H' I' e L=>⟨.ref S,_,I',rfl,q S as H' e L⟩
end
end L2
namespace L2.Ds
open PySem PySem.Spec PyProof.Rows Dl
section
variable {K:PySem.W.Frag} {mg:Str → Option Value} {F:Hp}
theorem zip3_ok {xs:List V} {ds:List D} {us:List D} (r:Rps K mg F xs ds) (e:zip3 ds = .ok us):∃ p q t a b c as bs cs d1 d2 d3,xs = [.ref a,.ref b,.ref c] ∧ SqB K p F a as ∧ SqB K q F b bs ∧ SqB K t F c cs ∧ Rps K mg F as d1 ∧ Rps K mg F bs d2 ∧ Rps K mg F cs d3 ∧ us = trips d1 d2 d3:=by
 unfold zip3 at e
 split at e
 ·next x y z =>
  obtain ⟨vx,vy,vz,rfl,rx,ry,rz⟩:=r.three
  cases e1:seqD x with
  | ok d1 =>
   rw [e1] at e
   cases e2:seqD y with
   | ok d2 =>
    cases e3:seqD z with
    | ok d3 =>
     have e':((seqD y).bind fun ys=>(seqD z).bind fun zs=>Res.ok (trips d1 ys zs)) = .ok us:=e
     rw [e2] at e'
     have e'':((seqD z).bind fun zs=>Res.ok (trips d1 d2 zs)) = .ok us:=e'
     rw [e3] at e''
     have e4:Res.ok (trips d1 d2 d3) = .ok us:=e''
     cases e4
     obtain ⟨p,a,as,rfl,ha,ra⟩:=seq_rp rx e1
     obtain ⟨q,b,bs,rfl,hb,rb⟩:=seq_rp ry e2
     obtain ⟨t,c,cs,rfl,hc,rc⟩:=seq_rp rz e3
     exact ⟨p,q,t,a,b,c,as,bs,cs,d1,d2,d3,rfl,ha,hb,hc,ra,rb,rc,rfl⟩
    | ex c =>
     have e':((seqD y).bind fun ys=>(seqD z).bind fun zs=>Res.ok (trips d1 ys zs)) = .ok us:=e
     rw [e2] at e'
     have e'':((seqD z).bind fun zs=>Res.ok (trips d1 d2 zs)) = .ok us:=e'
     rw [e3] at e'';cases e''
    | bad =>
     have e':((seqD y).bind fun ys=>(seqD z).bind fun zs=>Res.ok (trips d1 ys zs)) = .ok us:=e
     rw [e2] at e'
     have e'':((seqD z).bind fun zs=>Res.ok (trips d1 d2 zs)) = .ok us:=e'
     rw [e3] at e'';cases e''
   | ex c =>
    have e':((seqD y).bind fun ys=>(seqD z).bind fun zs=>Res.ok (trips d1 ys zs)) = .ok us:=e
    rw [e2] at e';cases e'
   | bad =>
    have e':((seqD y).bind fun ys=>(seqD z).bind fun zs=>Res.ok (trips d1 ys zs)) = .ok us:=e
    rw [e2] at e';cases e'
  | ex c=>rw [e1] at e;cases e
  | bad=>rw [e1] at e;cases e
 ·cases e
theorem zip3_ne {ds:List D} {c:Str}:zip3 ds ≠ .ex c:=by
 intro e
 unfold zip3 at e
 split at e
 ·next x y z =>
  cases e1:seqD x with
  | ok d1 =>
   rw [e1] at e
   have e':((seqD y).bind fun ys=>(seqD z).bind fun zs=>Res.ok (trips d1 ys zs)) = .ex c:=e
   cases e2:seqD y with
   | ok d2 =>
    rw [e2] at e'
    have e'':((seqD z).bind fun zs=>Res.ok (trips d1 d2 zs)) = .ex c:=e'
    cases e3:seqD z with
    | ok d3=>rw [e3] at e'';cases e''
    | ex c'=>exact absurd e3 seq_ne
    | bad=>rw [e3] at e'';cases e''
   | ex c'=>exact absurd e2 seq_ne
   | bad=>rw [e2] at e';cases e'
  | ex c'=>exact absurd e1 seq_ne
  | bad=>rw [e1] at e;cases e
 ·cases e
theorem lay_rps:∀ {H H':Hp} {ts:List (V × V × V)} {as:List Addr},Lay3 H ts as H' → ∀ {F:Hp},Same F H → ∀ {us:List D},us.length = ts.length → (∀ (i:Nat) x y z d,ts[i]? = some (x,y,z) → us[i]? = some d → ∃ a b c,d = .tup [a,b,c] ∧ Rp K mg F x a ∧ Rp K mg F y b ∧ Rp K mg F z c) → ∃ F',Gr F H F' H' ∧ Rps K mg F' (as.map V.ref) us:=by
 intro H H' ts as L
 induction L with
 | nil =>
  intro F s us hl _
  have:us = []:=List.length_eq_zero_iff.mp hl
  subst this
  exact ⟨F,.refl s,.nil⟩
 | @snoc ts as H1 T x y u L hT ih =>
  intro F s us hl hd
  have hl':us.length = ts.length + 1:=by rw [hl,List.length_append];rfl
  obtain ⟨d,eu⟩ : ∃ d,us[ts.length]? = some d:=⟨_,List.getElem?_eq_getElem (by omega)⟩
  obtain ⟨us',rfl⟩ : ∃ us',us = us' ++ [d]:=by
   refine ⟨us.take ts.length,?_⟩
   have:=List.take_append_drop ts.length us
   rw [List.drop_eq_getElem_cons (by omega),List.drop_eq_nil_of_le (by omega)] at this
   have e:us[ts.length] = d:=by
    have:=List.getElem?_eq_getElem (show ts.length < us.length by omega)
    rw [eu] at this
    exact (Option.some.inj this).symm
   rw [e] at this
   exact this.symm
  have hl2:us'.length = ts.length:=by rw [List.length_append] at hl';simpa using hl'
  obtain ⟨F1,g1,r1⟩:=ih s hl2 fun i x y z e h1 h2=>hd i x y z e (by rw [List.getElem?_append_left ((List.getElem?_eq_some_iff.mp h1).1)];exact h1) (by rw [List.getElem?_append_left ((List.getElem?_eq_some_iff.mp h2).1)];exact h2)
  obtain ⟨a,b,c,rfl,ra,rb,rc⟩:=hd ts.length x y u d (by simp) eu
  have g2:Gr F1 H1 _ _:=.new g1.s hT (.tup [x,y,u])
  refine ⟨_,g1.trans g2,?_⟩
  rw [List.map_append]
  refine Rps.app (.cons (.tup (SqT.of upd_same) (.cons ((ra.same g1.f).same g2.f) (.cons ((rb.same g1.f).same g2.f) (.cons ((rc.same g1.f).same g2.f) .nil)))) .nil) (r1.same g2.f)
theorem zip3L_trips:∀ {xs ys zs:List V} {ds es fs:List D},Rps K mg F xs ds → Rps K mg F ys es → Rps K mg F zs fs → (trips ds es fs).length = (zip3L xs ys zs).length ∧ ∀ (i:Nat) x y z d,(zip3L xs ys zs)[i]? = some (x,y,z) → (trips ds es fs)[i]? = some d → ∃ a b c,d = .tup [a,b,c] ∧ Rp K mg F x a ∧ Rp K mg F y b ∧ Rp K mg F z c
 | _,_,_,_,_,_,.nil,_,_=>⟨by simp [trips,zip3L],fun i x y z d h=>by simp [zip3L] at h⟩
 | _,_,_,_,_,_,.cons _ _,.nil,_=>⟨by simp [trips,zip3L],fun i x y z d h=>by simp [zip3L] at h⟩
 | _,_,_,_,_,_,.cons _ _,.cons _ _,.nil=>⟨by simp [trips,zip3L],fun i x y z d h=>by simp [zip3L] at h⟩
 | _,_,_,_,_,_,.cons h1 r1,.cons h2 r2,.cons h3 r3=>by
  obtain ⟨l,q⟩:=zip3L_trips r1 r2 r3
  refine ⟨by simp [trips,zip3L,l],fun i x y z d e1 e2=>?_⟩
  cases i with
  | zero =>
   simp [zip3L] at e1
   obtain ⟨rfl,rfl,rfl⟩:=e1
   simp [trips] at e2
   subst e2
   exact ⟨_,_,_,rfl,h1,h2,h3⟩
  | succ i=>exact q i x y z d (by simpa [zip3L] using e1) (by simpa [trips] using e2)
end
section
variable {X:Cx} {E:XK} {a b c:Expr} {n:Nat} {t:TA} {m:MA} {pos pos' lp p:Pos}
theorem d_lz (hcm:X.calm = true) (hg:Gl X "zip") (hm:X.mg "zip" = none) (hgl:Gl X "list") (hml:X.mg "list" = none) (ha:DA X E n [a,b,c] t m) (hs:starEach [a,b,c] X.env = [(false,eval a X.env),(false,eval b X.env),(false,eval c X.env)]:=by rfl) (hs2:starEach [b,c] X.env = [(false,eval b X.env),(false,eval c X.env)]:=by rfl)
  (hs3:starEach [.Call (.Name "zip" p) [a,b,c] [] pos] X.env = (false,eval (.Call (.Name "zip" p) [a,b,c] [] pos) X.env) :: starEach [] X.env:=by rfl) :
  DE X E (.Call (.Name "list" lp) [.Call (.Name "zip" p) [a,b,c] [] pos] [] pos') (tLZ X.K t) (on lz3 m):=by
 refine ⟨pe_lz hcm hg hm hgl hml ha.p hs hs2 hs3,?_⟩
 intro F0 H0 F H σ ρ rr
 refine (ha.s F0 H0 F H σ ρ rr).bind (w':=fun vs H1 Q=>∃ p q r a b c xs ys us,vs = [V.ref a,V.ref b,V.ref c] ∧ SqB X.K p H1 a xs ∧ SqB X.K q H1 b ys ∧ SqB X.K r H1 c us ∧ ∀ S as H',H' S = none → Lay3 H1 (zip3L xs ys us) as H' → Q (V.ref S) (upd H' S (.lst (as.map V.ref)))) fun F1 H1 xs ds g1 rs=>?_
 unfold lz3
 cases e:zip3 ds with
 | ok us =>
  obtain ⟨p,q,t,a,b,c,as,bs,cs,d1,d2,d3,rfl,ha,hb,hc,ra,rb,rc,rfl⟩:=zip3_ok rs e
  obtain ⟨l,z⟩:=zip3L_trips ra rb rc
  refine fun Q q'=>⟨p,q,t,a,b,c,as,bs,cs,rfl,sqB_same g1.s ha,sqB_same g1.s hb,sqB_same g1.s hc,fun S as' H' hS L=>?_⟩
  obtain ⟨F2,g2,r2⟩:=lay_rps L g1.s l z
  have g3:Gr F2 H' _ _:=.new g2.s hS (.lst (as'.map V.ref))
  exact q' _ _ _ (g2.trans g3) (.lst (SqL.of upd_same) (r2.same g3.f))
 | ex c'=>exact absurd e zip3_ne
 | bad=>trivial
end
end L2.Ds
namespace Dl
open PySem
end Dl
namespace L2
open PySem PySem.Spec PyProof.Rows PySem.Calls
section
variable {X:Cx} {k i:Nat} {x y n:Str} {Cy fa:Addr} {fd:FuncData} {ps:List Str} {sp:Sp} {t:TA} {tb tb':TB} {tc:TT} {u:Addr → TS} {e c:Expr} {es:List Expr} {p yp cpos epos hpos pos:Pos} {b₀:Stmt} {suite body bd be:List Stmt}
end
end L2
namespace L2.Ds
open PySem PySem.Spec PyProof.Rows PySem.Calls Dl
section
variable {K:PySem.W.Frag} {mg:Str → Option Value}
end
section
variable {X:Cx} {E:XK} {k l i j:Nat} {x y n:Str} {Cy:Addr} {ps:List Str} {f:List D → Res D} {t:TA} {tb tb':TB} {tc:TT} {nc:MB} {m:MA} {ma mb:ME} {u:Addr → TS} {b:MS} {e c:Expr} {es:List Expr} {p yp cpos epos hpos pos:Pos} {b₀:Stmt} {suite body bd be:List Stmt} {hits:List Str}
end
end L2.Ds
namespace Dl
open PySem
end Dl
namespace L2
open PySem PySem.Spec PyProof.Rows
section
variable {X:Cx} {tg:Expr}
end
end L2
namespace L2.Ds
open PySem PySem.Spec PyProof.Rows PySem.Calls Dl
section
variable {K:PySem.W.Frag} {mg:Str → Option Value} {E:XK} {F:Hp}
end
def GTup (K:PySem.W.Frag) (mg:Str → Option Value) (x:Str) (ns:List Int):Prop:=∃ (a:Addr) (o:Obj) (its:Array Value) (n:Nat),mg x = some (.ref a) ∧ K.lookup a = some o ∧ o.cls = .type "tuple" ∧ o.data = .seq its n ∧ its.size ≤ sizeLine ∧ Vals (ns.map V.int) its.toList
theorem rps_intsG {K:PySem.W.Frag} {mg:Str → Option Value} {F:Hp}:∀ ns:List Int,Rps K mg F (ns.map V.int) (ns.map D.int)
 | []=>.nil
 | n :: r=>.cons (.int n) (rps_intsG r)
section
variable {X:Cx} {E:XK} {a b c e tg:Expr} {es:List Expr} {t:TA} {m:MA} {n:Nat} {tb:TE} {mb:ME} {pos p lpos:Pos}
theorem d_gtup {x:Str} {ns:List Int} {A:Addr} {o:Obj} {its:Array Value} {n:Nat} (hg:Gl X x) (hm:X.mg x = some (.ref A)) (h1:X.K.lookup A = some o) (h2:o.cls = .type "tuple") (h3:o.data = .seq its n) (h4:its.size ≤ sizeLine) (h5:Vals (ns.map V.int) its.toList) (hd:(x == ("__debug__" : Str)) = false:=by decide) :
  DE X E (.Name x pos) (tC (.ref A)) (Dl.c (.tup (ns.map .int))):=⟨pe_glob hg hm rfl hd,se_c fun _=>.tup (.inr ⟨o,its,n,h1,h2,h3,h4,h5⟩) (rps_intsG ns)⟩
end
end L2.Ds
namespace Dl
open PySem
end Dl
namespace L2.Ds
open PySem PySem.Spec PyProof.Rows PySem.Calls Dl
section
variable {K:PySem.W.Frag} {mg:Str → Option Value} {E:XK} {F0 H0 F H:Hp} {i:Nat} {σ:St} {ta:TE} {ma:ME}
end
section
variable {X:Cx} {E:XK} {i j:Nat} {c' e tg:Expr} {sa:TT} {na:MB} {te:TE} {me:ME} {x y:Str} {pos' spos pos ipos tpos:Pos}
end
section
variable {X:Cx} {E:XK} {a b c d o:Expr} {ta tb tc td to:TE} {ma mb mc md mo:ME} {pos apos cpos:Pos}
end
end L2.Ds
namespace Dl
open PySem
end Dl
namespace L2.Ds
open PySem PySem.Spec PyProof.Rows Dl
section
variable {K:PySem.W.Frag} {mg:Str → Option Value} {E:XK} {F0 H0 F H:Hp} {σ:St} {ρ:Ev}
end
section
variable {P:Program} {w:World} {K:PySem.W.Frag} {mg:Str → Option Value} {base:Heap} {N ps:List Str} {x:Str} {k n:Nat} {m:List D → Res D}
end
section
variable {X:Cx} {E:XK} {k l n i nn:Nat} {x y:Str} {ps:List Str} {f:List D → Res D} {t:TA} {m:MA} {e:Expr} {es:List Expr} {p pos pos' spos:Pos}
end
section
variable {K:PySem.W.Frag} {mg:Str → Option Value} {E:XK} {F0 H0 F H:Hp} {σ:St} {ρ:Ev}
end
section
variable {X:Cx} {E:XK} {tg iter elt:Expr} {ts:List Expr} {me:ME} {na:MB} {pos spos:Pos} {n:Nat}
end
section
variable {P:Program} {w:World} {K:PySem.W.Frag} {mg:Str → Option Value} {base:Heap} {N ps:List Str} {x:Str}
end
section
variable {X:Cx} {E:XK} {i nn:Nat} {y:Str} {te:TE} {me:ME} {e c':Expr} {sa:TT} {na:MB} {kb kr:MS} {ub ur:TS} {body rest:List Stmt} {pos pos' spos ip ipos np apos cpos spos' spos'':Pos} {j:Nat}
end
section
variable {X:Cx} {E:XK} {i nn:Nat} {y:Str} {te:TE} {me:ME} {e c':Expr} {sa:TT} {na:MB} {kb kr:MS} {ub ur:TS} {body rest:List Stmt} {pos' spos ip np zp apos cpos spos' spos'':Pos} {j:Nat}
end
end L2.Ds
namespace Dl
open PySem
end Dl
namespace L2
open PySem PySem.Spec PyProof.Rows
section
variable {X:Cx} {own:List Str} {cap:List (Str × Nat)} {scope:Scope} {cl:List (Str × Addr)} {pins:List (Addr × Obj)} {σ:St} {H:Hp} {s:Shared} {fp:List Addr} {tg:Expr} {J:It} {it:Addr} {tn:Nat → Heap → Prop}
end
section
variable {M:Model} {A:Around} {E:Value → Shared → Prop} {s:Shared} {B:Heap} {env cenv:Env} {outer l:List Env} {L e:Addr} {cls a0 fl:Value}
end
section
variable {X:Cx} {E:XK} {pins:List (Addr × Obj)} {σ:St} {H:Hp} {s s7:Shared} {fp:List Addr} {scope:Scope} {cells:List (Str × Addr)} {C:Addr} {e acc:Value} {use:Option (Value → Sem Unit)} {Q:Value → Shared → Prop}
end
section
variable {X:Cx} {own:List Str} {cap:List (Str × Nat)} {scope:Scope} {cl:List (Str × Addr)} {pins:List (Addr × Obj)} {σ:St} {H:Hp} {s:Shared} {fp:List Addr} {tg:Expr} {J:It} {it:Addr} {tn:Nat → Heap → Prop} {E:XK}
end
end L2
namespace L2.Ds
open PySem PySem.Spec PyProof.Rows Dl
section
variable {K:PySem.W.Frag} {mg:Str → Option Value} {E:XK} {F0 H0 F H:Hp} {σ:St} {ρ:Ev}
end
section
variable {X:Cx} {E:XK} {tg iter elt:Expr} {ts:List Expr} {me:ME} {na:MB} {pos:Pos}
end
end L2.Ds
namespace Dl
open PySem
def dFld (cs:List Str) (f:Str):D → Res D
 | .ins c ns vs=>if cs.contains c = true then ofO ((ns.zip vs).lookup f) else .bad
 | _=>.bad
def badS:MS:=fun _=>.bad
end Dl
namespace L2.Ds
open PySem PySem.Spec PyProof.Rows Dl
def FldOk (K:PySem.W.Frag) (mg:Str → Option Value) (cs:List Str) (f:Str):Prop:=∀ c,cs.contains c = true → ∀ C,mg c = some (.ref C) → Cls K C ∧ NoAttr K C f
def rFld (K:PySem.W.Frag) (f:Str):V → Hp → VK → Prop:=fun x H Q=>∃ a C dx fs v,x = .ref a ∧ H a = some (.ins C dx fs) ∧ Cls K C ∧ NoAttr K C f ∧ fs.lookup f = some v ∧ Q v H
section
variable {K:PySem.W.Frag} {mg:Str → Option Value}
theorem rps_lookup {F:Hp} {f:Str} {d:D}:∀ {fs:List (Str × V)} {vs:List D},Rps K mg F (fs.map (·.2)) vs → ((fs.map (·.1)).zip vs).lookup f = some d → ∃ v,fs.lookup f = some v ∧ Rp K mg F v d
 | [],_,_,e=>by simp at e
 | (n,x) :: r,[],q,_=>nomatch q
 | (n,x) :: r,d0 :: vs,.cons h q,e=>by
  rw [List.map_cons,List.zip_cons_cons,List.lookup_cons] at e
  rw [List.lookup_cons]
  cases z:f == n with
  | true =>
   rw [show (f == (n,x).fst) = true from z] at e
   cases e
   exact ⟨x,rfl,h⟩
  | false =>
   rw [show (f == (n,x).fst) = false from z] at e
   exact rps_lookup q e
theorem unD_fld {cs:List Str} {f:Str} (T:FldOk K mg cs f):UnD K mg (rFld K f) (dFld cs f):=by
 intro E F H x dx s rx
 cases dx with
 | ins c ns vs =>
  show Ans mg E (Rp K mg) F H (if cs.contains c = true then ofO ((ns.zip vs).lookup f) else .bad) _
  by_cases hc:cs.contains c = true
  ·rw [if_pos hc]
   cases rx with
   | @ins _ C a dx fs xs _ m h o e r =>
    subst e
    cases q:((fs.map (·.1)).zip vs).lookup f with
    | none=>trivial
    | some d =>
     obtain ⟨v,hv,rv⟩:=rps_lookup r q
     obtain ⟨c1,c2⟩:=T c hc C m
     exact .ret s rv fun Q z=>⟨a,C,dx,fs,v,rfl,s _ _ h,c1,c2,hv,z⟩
  ·rw [if_neg hc];trivial
 | _=>trivial
end
theorem d_fld {X:Cx} {E:XK} {e:Expr} {te:TE} {me:ME} {cs:List Str} {f:Str} {pos:Pos} (T:FldOk X.K X.mg cs f) (he:DE X E e te me) (hb:attributeBase e f X.env (eval e X.env) = eval e X.env:=by rfl) :
  DE X E (.Attribute e f pos) (tFld X.K te f) (o1 (dFld cs f) me):=⟨pe_fld he.p hb,se_un (unD_fld T) he.s⟩
theorem dss_bad {X:Cx} {E:XK} {sts:List Stmt}:DSs X E sts (fun _ _ _=>False) badS:=⟨fun _ _ _ _ _ _ h=>h.elim,fun _ _ _ _ _ _ _=>trivial⟩
end L2.Ds
namespace Dl
open PySem
end Dl
namespace L2.Ds
open PySem PySem.Spec PyProof.Rows Dl
section
variable {K:PySem.W.Frag} {mg:Str → Option Value} {E:XK} {F0 H0 F H:Hp} {σ:St} {ρ:Ev}
end
section
variable {X:Cx} {E:XK} {tg iter elt e e0:Expr} {ts es:List Expr} {me mv:ME} {na:MB} {n i a b:Nat} {x xa xb:Str} {t:TA} {m:MA} {tv:TE} {ur:TS} {kr:MS} {rest:List Stmt} {pos pos' spos spos2 np nap nbp ip ip2:Pos}
end
end L2.Ds
namespace Dl
open PySem
end Dl
namespace L2
open PySem PySem.Spec PyProof.Rows
section
variable {X:Cx}
end
end L2
namespace L2.Ds
open PySem PySem.Spec PyProof.Rows PySem.Calls Dl
section
variable {K:PySem.W.Frag} {mg:Str → Option Value}
end
section
variable {X:Cx} {E:XK} {a b:Expr} {ta tb:TE} {ma mb:ME} {pos:Pos}
end
end L2.Ds
namespace Dl
open PySem
abbrev Fs:=List (Str × D)
abbrev MSi:=Ev → Fs → Res Fs
def iEnd:MSi:=fun _ fl=>.ok fl
def iDrp (e:ME) (k:MSi):MSi:=fun ρ fl=>(e ρ).bind fun _=>k ρ fl
def iSet (f:Str) (e:ME) (k:MSi):MSi:=fun ρ fl=>(e ρ).bind fun d=>if (fl.map (·.1)).contains f = true ∨ 100 ≤ fl.length then .bad else k ρ (fl ++ [(f,d)])
def iSup (g:List D → Fs → Res Fs) (a:MA) (k:MSi):MSi:=fun ρ fl=>(a ρ).bind fun ds=>(g ds fl).bind fun fl'=>k ρ fl'
def fnI (n:Nat) (k:MSi):List D → Fs → Res Fs:=fun ds fl=>k (.no :: ev0 (n - 1) ds) fl
def make (c:Str) (g:List D → Fs → Res Fs) (a:MA):ME:=fun ρ=>(a ρ).bind fun ds=>(g ds []).bind fun fl=>.ok (.ins c (fl.map (·.1)) (fl.map (·.2)))
def meth (tab:List (Str × (List D → Res D))) (m:Str) (o:ME) (a:MA):ME:=fun ρ=>(o ρ).bind fun d=>match d with
 | .ins c ns vs=>if ns.contains m = true then .bad else match tab.lookup c with
  | some f=>(a ρ).bind fun ds=>f (.ins c ns vs :: ds)
  | none=>.bad
 | _=>.bad
end Dl
namespace L2.Ds
open PySem PySem.Spec PyProof.Rows Dl
theorem Ans.imp {α β:Type} {mg:Str → Option Value} {E:XK} {R:Hp → β → α → Prop} {F H:Hp} {r:Res α} {w w':(β → Hp → Prop) → Prop} (h:Ans mg E R F H r w) (hw:∀ Q,w Q → w' Q):Ans mg E R F H r w':=by
 cases r with
 | ok a=>exact fun Q q=>hw Q (h Q q)
 | ex c=>exact fun Q q=>hw Q (h Q q)
 | bad=>trivial
def tMethG (P:Program) (w:World) (K:PySem.W.Frag) (mg:Str → Option Value) (base:Heap) (k:Nat) (m:Str) (E:XK) (ta:TE) (t:TA):TE:=fun σ H Q=>ta σ H fun x H1=>∃ a C dx fs g fd ps sp,x = .ref a ∧ H1 a = some (.ins C dx fs) ∧ fs.lookup m = none ∧
 Cls K C ∧ Meth K C m g ∧ FnOk P w K mg base (CXR P w) k g fd ps sp ∧ Binds K fd ps [] ∧ t σ H1 fun vs H2=>sp (x :: vs) H2 Q E
section
variable {X:Cx} {E:XK} {k:Nat} {m:Str} {e o:Expr} {es:List Expr} {ta:TE} {t:TA} {pos apos:Pos} {pl:Sem Bool}
theorem pe_methG (he:PE X o ta) (hr:Room k X.A) (hx:Passes (CXR X.prog X.w) X E) (ha:PA X (e :: es) t)
  (hst:starEach (e :: es) X.env = (false,eval e X.env) :: starEach es X.env:=by rfl) (hpl:(backTo pos (starEach es X.env)).any (·.1) = false:=by rfl)
  (ht:eval (.Call (.Attribute o m apos) (e :: es) [] pos) X.env = (do
   let ov ← eval o X.env
   standAt apos.atName
   let (f,first) ← holding [ov] (getMethod ov m pl)
   callWith pos f first (backTo pos (starEach (e :: es) X.env)) (backToKw pos (keywordEach [] X.env))):=by rfl) :
  PE X (.Call (.Attribute o m apos) (e :: es) [] pos) (tMethG X.prog X.w X.K X.mg X.base k m E ta t):=by
 intro pins s σ H Q I h
 refine PySem.W.methodCall_KW (pl:=pl) (thn (he pins s σ H _ I h) fun u s1 ⟨x,H1,I1,rx,a,C,dx,fs,g,fd,ps,sp,ex,ea,l,c,hm,F,hb,q⟩=>?_) ht
 subst ex
 obtain rfl:u = Value.ref a:=rx
 refine getmeth_ok I1 ea c hm l ?_
 refine PySem.W.callWith_K (first:=[.ref a]) (h₀:=X.base) I.ok.mod.kin hm.kp (thn (ha pos pins s1 σ H1 _ I1 q) fun us s2 ⟨vs,H2,I2,r,q2⟩=>⟨I2.kIn,?_⟩) hst hpl
 exact run_fn (us:=.ref a :: us) (vs:=.ref a :: vs) (dvs:=[]) F hr hb .nil hx I2 (.cons rfl r) (by rw [List.append_nil];exact q2)
theorem pe_methG0 (he:PE X o ta) (hr:Room k X.A) (hx:Passes (CXR X.prog X.w) X E)
  (ht:eval (.Call (.Attribute o m apos) [] [] pos) X.env = (do
   let ov ← eval o X.env
   standAt apos.atName
   let (f,first) ← holding [ov] (getMethod ov m pl)
   callWith pos f first (backTo pos (starEach [] X.env)) (backToKw pos (keywordEach [] X.env))):=by rfl) :
  PE X (.Call (.Attribute o m apos) [] [] pos) (tMethG X.prog X.w X.K X.mg X.base k m E ta tNil):=by
 intro pins s σ H Q I h
 refine PySem.W.methodCall_KW (pl:=pl) (thn (he pins s σ H _ I h) fun u s1 ⟨x,H1,I1,rx,a,C,dx,fs,g,fd,ps,sp,ex,ea,l,c,hm,F,hb,q⟩=>?_) ht
 subst ex
 obtain rfl:u = Value.ref a:=rx
 refine getmeth_ok I1 ea c hm l ?_
 exact PySem.W.callWith_K0 (first:=[.ref a]) I1.kIn hm.kp (run_fn (us:=[.ref a]) (vs:=[.ref a]) (dvs:=[]) F hr hb .nil hx I1 (.cons rfl .nil) q)
end
def MethOk (P:Program) (w:World) (K:PySem.W.Frag) (mg:Str → Option Value) (base:Heap) (k n:Nat) (m:Str) (tab:List (Str × (List D → Res D))):Prop:=∀ c f,tab.lookup c = some f → ∀ C,mg c = some (.ref C) →
 Cls K C ∧ ∃ g fd ps,Meth K C m g ∧ FnOk P w K mg base (CXR P w) k g fd ps (spD K mg ps.length f) ∧ Binds K fd ps [] ∧ ps.length = n + 1
theorem MethOk.nil {P:Program} {w:World} {K:PySem.W.Frag} {mg:Str → Option Value} {base:Heap} {k n:Nat} {m:Str}:MethOk P w K mg base k n m []:=fun _ _ e=>by cases e
theorem MethOk.cons {P:Program} {w:World} {K:PySem.W.Frag} {mg:Str → Option Value} {base:Heap} {k n:Nat} {m c:Str} {f:List D → Res D} {tab:List (Str × (List D → Res D))}
  (h:∀ C,mg c = some (.ref C) → Cls K C ∧ ∃ g fd ps,Meth K C m g ∧ FnOk P w K mg base (CXR P w) k g fd ps (spD K mg ps.length f) ∧ Binds K fd ps [] ∧ ps.length = n + 1) (r:MethOk P w K mg base k n m tab):MethOk P w K mg base k n m ((c,f) :: tab):=by
 intro c' f' e
 rw [List.lookup_cons] at e
 split at e
 ·next q =>
  cases e
  rw [eq_of_beq q]
  exact h
 ·exact r c' f' e
theorem lookup_no {m:Str}:∀ {fs:List (Str × V)},¬ (fs.map (·.1)).contains m = true → fs.lookup m = none
 | [],_=>rfl
 | (n,x) :: r,h=>by
  rw [List.map_cons,List.contains_cons] at h
  rw [List.lookup_cons]
  cases z:m == n with
  | true=>exact absurd (by rw [show (m == (n,x).fst) = true from z];rfl) h
  | false=>exact lookup_no fun q=>h (by rw [q,Bool.or_true])
section
variable {P:Program} {w:World} {K:PySem.W.Frag} {mg:Str → Option Value} {base:Heap} {E:XK} {k n:Nat} {m:Str} {tab:List (Str × (List D → Res D))} {ta:TE} {mo:ME} {t:TA} {ma:MA}
theorem se_meth (T:MethOk P w K mg base k n m tab) (ho:SE K mg E ta mo) (ha:SA K mg E t ma) (hl:SAn n ma):SE K mg E (tMethG P w K mg base k m E ta t) (meth tab m mo ma):=by
 intro F0 H0 F H σ ρ rr
 refine (ho F0 H0 F H σ ρ rr).bind fun F1 H1 x d g1 rx=>?_
 cases d with
 | ins c ns vs =>
  show Ans mg E (Rp K mg) F1 H1 (if ns.contains m = true then .bad else match tab.lookup c with
   | some f=>(ma ρ).bind fun ds=>f (.ins c ns vs :: ds)
   | none=>.bad) _
  by_cases hc:ns.contains m = true
  ·rw [if_pos hc];trivial
  rw [if_neg hc]
  cases e:tab.lookup c with
  | none=>trivial
  | some f =>
   show Ans mg E (Rp K mg) F1 H1 ((ma ρ).bind fun ds=>f (.ins c ns vs :: ds)) _
   have rx':=rx
   cases rx with
   | @ins _ C a dx fs xs _ hm h o q r =>
    obtain ⟨c1,g,fd,ps,hM,hF,hB,hp⟩:=T c f e C hm
    refine Ans.imp ((ha F0 H0 F1 H1 σ ρ (rr.gr g1)).bindE (w':=fun vs' H2 Q=>spD K mg ps.length f (.ref a :: vs') H2 Q E) fun ds ed F2 H2 vs' g2 rs=>?_) fun Q z=>⟨a,C,dx,fs,g,fd,ps,spD K mg ps.length f,rfl,g1.s _ _ h,lookup_no hc,c1,hM,hF,hB,z⟩
    exact ans_call g2.s (.cons (rx'.same g2.f) rs) (by rw [List.length_cons,hl ρ ds ed,hp])
 | _=>trivial
end
section
variable {X:Cx} {E:XK} {k l n:Nat} {m:Str} {e o:Expr} {es:List Expr} {ta:TE} {mo:ME} {t:TA} {ma:MA} {pos apos:Pos} {pl:Sem Bool} {tab:List (Str × (List D → Res D))}
theorem d_meth (T:MethOk X.prog X.w X.K X.mg X.base k n m tab) (hr:Room l X.A) (hn:k ≤ l) (hx:Passes (CXR X.prog X.w) X E) (ho:DE X E o ta mo) (ha:DA X E n (e :: es) t ma)
  (hst:starEach (e :: es) X.env = (false,eval e X.env) :: starEach es X.env:=by rfl) (hpl:(backTo pos (starEach es X.env)).any (·.1) = false:=by rfl)
  (ht:eval (.Call (.Attribute o m apos) (e :: es) [] pos) X.env = (do
   let ov ← eval o X.env
   standAt apos.atName
   let (f,first) ← holding [ov] (getMethod ov m pl)
   callWith pos f first (backTo pos (starEach (e :: es) X.env)) (backToKw pos (keywordEach [] X.env))):=by rfl) :
  DE X E (.Call (.Attribute o m apos) (e :: es) [] pos) (tMethG X.prog X.w X.K X.mg X.base k m E ta t) (meth tab m mo ma):=⟨pe_methG ho.p (hr.mono hn) hx ha.p hst hpl ht,se_meth T ho.s ha.s ha.n⟩
theorem d_meth0 (T:MethOk X.prog X.w X.K X.mg X.base k 0 m tab) (hr:Room l X.A) (hn:k ≤ l) (hx:Passes (CXR X.prog X.w) X E) (ho:DE X E o ta mo)
  (ht:eval (.Call (.Attribute o m apos) [] [] pos) X.env = (do
   let ov ← eval o X.env
   standAt apos.atName
   let (f,first) ← holding [ov] (getMethod ov m pl)
   callWith pos f first (backTo pos (starEach [] X.env)) (backToKw pos (keywordEach [] X.env))):=by rfl) :
  DE X E (.Call (.Attribute o m apos) [] [] pos) (tMethG X.prog X.w X.K X.mg X.base k m E ta tNil) (meth tab m mo anil):=⟨pe_methG0 ho.p (hr.mono hn) hx ht,se_meth T ho.s sa_nil san_nil⟩
end
section
variable {X:Cx} {N:List Str} {scope:Scope} {cl:List (Str × Addr)} {C':Addr} {s:Shared} {H:Hp} {fp:List Addr} {pn:List (Addr × Obj)} {e o:Expr} {es:List Expr} {ta:TE} {mo:ME} {t:TA} {ma:MA} {n k l:Nat} {m f:Str} {pos apos:Pos} {pl:Sem Bool} {tab:List (Str × (List D → Res D))} {cs:List Str}
theorem d_meth0C (T:MethOk X.prog X.w X.K X.mg X.base k 0 m tab) (hr:Room l X.A) (hn:k ≤ l) (ho:DE (cxComp X N scope cl C' s H fp pn) E0 o ta mo)
  (ht:eval (.Call (.Attribute o m apos) [] [] pos) (cxComp X N scope cl C' s H fp pn).env = (do
   let ov ← eval o (cxComp X N scope cl C' s H fp pn).env
   standAt apos.atName
   let (f,first) ← holding [ov] (getMethod ov m pl)
   callWith pos f first (backTo pos (starEach [] (cxComp X N scope cl C' s H fp pn).env)) (backToKw pos (keywordEach [] (cxComp X N scope cl C' s H fp pn).env))):=by rfl) :
  DE (cxComp X N scope cl C' s H fp pn) E0 (.Call (.Attribute o m apos) [] [] pos) (tMethG X.prog X.w X.K X.mg X.base k m E0 ta tNil) (meth tab m mo anil):=d_meth0 (X:=cxComp X N scope cl C' s H fp pn) T hr hn pass_c ho ht
theorem d_fldC (T:FldOk X.K X.mg cs f) (he:DE (cxComp X N scope cl C' s H fp pn) E0 o ta mo) (hb:attributeBase o f (cxComp X N scope cl C' s H fp pn).env (eval o (cxComp X N scope cl C' s H fp pn).env) = eval o (cxComp X N scope cl C' s H fp pn).env:=by rfl) :
  DE (cxComp X N scope cl C' s H fp pn) E0 (.Attribute o f pos) (tFld X.K ta f) (o1 (dFld cs f) mo):=d_fld (X:=cxComp X N scope cl C' s H fp pn) T he hb
end
theorem FldOk.nil {K:PySem.W.Frag} {mg:Str → Option Value} {f:Str}:FldOk K mg [] f:=fun _ h=>by cases h
theorem FldOk.cons {K:PySem.W.Frag} {mg:Str → Option Value} {c f:Str} {cs:List Str} (h:∀ C,mg c = some (.ref C) → Cls K C ∧ NoAttr K C f) (r:FldOk K mg cs f):FldOk K mg (c :: cs) f:=fun c' hc=>by
 rw [List.contains_cons] at hc
 cases z:c' == c with
 | true=>rw [eq_of_beq z];exact h
 | false =>
  rw [z,Bool.false_or] at hc
  exact r c' hc
structure FR (K:PySem.W.Frag) (mg:Str → Option Value) (F:Hp) (fs:List (Str × V)) (fl:Fs):Prop where
 nm:fs.map (·.1) = fl.map (·.1)
 rv:Rps K mg F (fs.map (·.2)) (fl.map (·.2))
theorem FR.same {K:PySem.W.Frag} {mg:Str → Option Value} {F F':Hp} {fs:List (Str × V)} {fl:Fs} (h:FR K mg F fs fl) (s:Same F F'):FR K mg F' fs fl:=⟨h.nm,h.rv.same s⟩
theorem FR.len {K:PySem.W.Frag} {mg:Str → Option Value} {F:Hp} {fs:List (Str × V)} {fl:Fs} (h:FR K mg F fs fl):fs.length = fl.length:=by
 have:=congrArg List.length h.nm
 rwa [List.length_map,List.length_map] at this
theorem putF_new {f:Str} {y:V}:∀ {fs:List (Str × V)},¬ (fs.map (·.1)).contains f = true → putF f y fs = fs ++ [(f,y)]
 | [],_=>rfl
 | (g,x) :: r,h=>by
  rw [List.map_cons,List.contains_cons] at h
  have hg:g ≠ f:=by
   rintro rfl
   exact h (by rw [show ((g,x).fst == g) = true from beq_self_eq_true g];rfl)
  show (if g = f then (g,y) :: r else (g,x) :: putF f y r) = _
  rw [if_neg hg,putF_new fun q=>h (by rw [q,Bool.or_true])]
  rfl
theorem FR.put {K:PySem.W.Frag} {mg:Str → Option Value} {F:Hp} {fs:List (Str × V)} {fl:Fs} {f:Str} {y:V} {d:D} (h:FR K mg F fs fl) (hn:¬ (fl.map (·.1)).contains f = true) (ry:Rp K mg F y d):FR K mg F (putF f y fs) (fl ++ [(f,d)]):=by
 rw [putF_new (by rw [h.nm];exact hn)]
 refine ⟨by rw [List.map_append,List.map_append,h.nm];rfl,?_⟩
 rw [List.map_append,List.map_append]
 exact Rps.app (.cons ry .nil) h.rv
def spI (K:PySem.W.Frag) (mg:Str → Option Value) (n:Nat) (cs:List Str) (m:List D → Fs → Res Fs):Sp:=fun vs H Q E=>vs.length = n + 1 ∧ ∃ (x dx C:Addr) (c:Str) (ys:List V) (fs:List (Str × V)) (F:Hp) (ds:List D) (fl:Fs),
 vs = .ref x :: ys ∧ cs.contains c = true ∧ mg c = some (.ref C) ∧ H x = some (.ins C dx fs) ∧ F x = none ∧ Same F H ∧ Rps K mg F ys ds ∧ FR K mg F fs fl ∧ m ds fl ≠ .bad ∧
 (∀ fl',m ds fl = .ok fl' → ∀ F' H' fs',Gr F (del H x) F' H' → F' x = none → H' x = some (.ins C dx fs') → FR K mg F' fs' fl' → Q .non H') ∧
 (∀ e,m ds fl = .ex e → ∀ F' H' fs' Ce,Gr F (del H x) F' H' → F' x = none → H' x = some (.ins C dx fs') → mg e = some (.ref Ce) → E (.ref Ce) none H')
structure RepI (K:PySem.W.Frag) (mg:Str → Option Value) (x dx C:Addr) (F0 H0 F H:Hp) (σ:St) (ρ:Ev) (fs:List (Str × V)) (fl:Fs):Prop where
 rep:Rep K mg F0 H0 F H σ ρ
 h0:H0 x = none
 self:σ[0]? = some (some (.ref x))
 fx:F x = none
 hx:H x = some (.ins C dx fs)
 fr:FR K mg F fs fl
section
variable {K:PySem.W.Frag} {mg:Str → Option Value} {x dx C:Addr} {F0 H0 F H F' H':Hp} {σ:St} {ρ:Ev} {fs fs':List (Str × V)} {fl fl':Fs}
theorem RepI.gr (r:RepI K mg x dx C F0 H0 F H σ ρ fs fl) (g:Gr F H F' H'):RepI K mg x dx C F0 H0 F' H' σ ρ fs fl:=by
 obtain ⟨q1,q2⟩:=g.o x _ r.fx r.hx
 exact ⟨r.rep.gr g,r.h0,r.self,q1,q2,r.fr.same g.f⟩
theorem RepI.go (r:RepI K mg x dx C F0 H0 F H σ ρ fs fl) (g:Gr F (del H x) F' H') (fx:F' x = none) (hx:H' x = some (.ins C dx fs')) (fr:FR K mg F' fs' fl'):RepI K mg x dx C F0 H0 F' H' σ ρ fs' fl':=by
 refine ⟨⟨⟨r.rep.g.f.trans g.f,g.s,fun a o h1 h2=>?_⟩,r.rep.len,fun i d e=>?_,fun i ds e=>?_,r.rep.ne⟩,r.h0,r.self,fx,hx,fr⟩
 ·obtain ⟨q1,q2⟩:=r.rep.g.o a o h1 h2
  exact g.o a o q1 (by rw [del_ne (ne_of_none h2 r.h0)];exact q2)
 ·obtain ⟨y,h1,h2⟩:=r.rep.im i d e
  exact ⟨y,h1,h2.same g.f⟩
 ·obtain ⟨a,xs,h1,h2,h3,h4,h5⟩:=r.rep.ow i ds e
  have ne:a ≠ x:=by
   rintro rfl
   rw [r.hx] at h4
   cases h4
  obtain ⟨q1,q2⟩:=g.o a _ h3 (by rw [del_ne ne];exact h4)
  exact ⟨a,xs,h1,h2,q1,q2,h5.same g.f⟩
theorem RepI.set {f:Str} {y:V} {d:D} (r:RepI K mg x dx C F0 H0 F H σ ρ fs fl) (hn:¬ (fl.map (·.1)).contains f = true) (ry:Rp K mg F y d):RepI K mg x dx C F0 H0 F (upd H x (.ins C dx (putF f y fs))) σ ρ (putF f y fs) (fl ++ [(f,d)]):=by
 refine r.go ⟨Same.refl _,fun a o e=>?_,fun a o h1 h2=>⟨h1,?_⟩⟩ r.fx upd_same (r.fr.put hn ry)
 ·rw [upd_ne (ne_of_none e r.fx)];exact r.rep.g.s a o e
 ·have ne:a ≠ x:=by
   rintro rfl
   rw [del_at] at h2
   cases h2
  rw [del_ne ne] at h2
  rw [upd_ne ne];exact h2
end
def AnsI (K:PySem.W.Frag) (mg:Str → Option Value) (E:XK) (x dx C:Addr) (F0 H0:Hp) (r:Res Fs) (w:Ends → Prop):Prop :=
 match r with
 | .ok fl=>∀ D:Ends,(∀ F' H' σ' fs,Gr F0 H0 F' H' → F' x = none → H' x = some (.ins C dx fs) → FR K mg F' fs fl → D.nx σ' H') → w D
 | .ex c=>∀ D:Ends,(∀ F' H' fs Ce,Gr F0 H0 F' H' → F' x = none → H' x = some (.ins C dx fs) → mg c = some (.ref Ce) → E (.ref Ce) none H') → w D
 | .bad=>True
def SSi (K:PySem.W.Frag) (mg:Str → Option Value) (E:XK) (cs:List Str) (t:TS) (m:MSi):Prop:=∀ x dx C c F0 H0 F H σ ρ fs fl,cs.contains c = true → mg c = some (.ref C) → RepI K mg x dx C F0 H0 F H σ ρ fs fl → AnsI K mg E x dx C F0 H0 (m ρ fl) (fun D=>t D σ H)
structure DSi (X:Cx) (E:XK) (cs:List Str) (sts:List Stmt) (t:TS) (m:MSi):Prop where
 p:PSs X sts t
 s:SSi X.K X.mg E cs t m
section
variable {K:PySem.W.Frag} {mg:Str → Option Value} {E:XK} {x dx C:Addr} {F0 H0 F H:Hp} {α β:Type} {R:Hp → β → α → Prop} {σ:St} {ρ:Ev} {fs:List (Str × V)} {fl:Fs}
theorem ansI_bind {r:Res α} {w:(β → Hp → Prop) → Prop} {k:α → Res Fs} {w':β → Hp → Ends → Prop} (rr:RepI K mg x dx C F0 H0 F H σ ρ fs fl) (h1:Ans mg E R F H r w) (h2:∀ a,r = .ok a → ∀ F1 H1 b,Gr F H F1 H1 → R F1 b a → AnsI K mg E x dx C F0 H0 (k a) (w' b H1)) :
  AnsI K mg E x dx C F0 H0 (r.bind k) (fun D=>w fun b H1=>w' b H1 D):=by
 cases r with
 | ok a =>
  show AnsI K mg E x dx C F0 H0 (k a) _
  have h2':=h2 a rfl
  generalize k a = r2 at h2'
  cases r2 with
  | ok d=>exact fun D q=>h1 _ fun F1 H1 b g rb=>h2' F1 H1 b g rb D q
  | ex c=>exact fun D q=>h1 _ fun F1 H1 b g rb=>h2' F1 H1 b g rb D q
  | bad=>trivial
 | ex c=>exact fun D q=>h1 _ fun F1 H1 Ce g hc=>let r2:=rr.gr g;q F1 H1 fs Ce r2.rep.g r2.fx r2.hx hc
 | bad=>trivial
end
section
variable {X:Cx} {E:XK} {cs cs':List Str} {rest:List Stmt} {u:TS} {k:MSi} {e o:Expr} {es:List Expr} {te:TE} {me:ME} {t:TA} {ma:MA} {spos pos apos p p':Pos} {f x y m:Str} {n j l:Nat}
theorem di_nil:DSi X E cs [] tNext iEnd:=⟨pss_nil,fun x dx C c F0 H0 F H σ ρ fs fl _ _ r=>fun D q=>q F H σ fs r.rep.g r.fx r.hx r.fr⟩
theorem di_drp (he:DE X E e te me) (h:DSi X E cs rest u k) (hs:swapsWith e none spos.line X.env = pure false:=by rfl):DSi X E cs (.Expr e spos :: rest) (tSeq (tDrop te) u) (iDrp me k):=by
 refine ⟨pss_cons (ps_expr he.p hs) h.p,?_⟩
 intro x dx C c F0 H0 F H σ ρ fs fl hc hm r
 exact ansI_bind (w':=fun _ H1 D=>u D σ H1) r (he.s F0 H0 F H σ ρ r.rep) fun a _ F1 H1 b g _=>h.s x dx C c F0 H0 F1 H1 σ ρ fs fl hc hm (r.gr g)
theorem di_set (T:FldOk X.K X.mg cs f) (he:DE X E e te me) (h:DSi X E cs rest u k) (hN:X.N[0]? = some x:=by rfl) (hv:Vis X.env.scope x:=by first | exact Or.inl rfl | exact Or.inr (Or.inl rfl) | exact Or.inr (Or.inr rfl)) (hd:(x == ("__debug__" : Str)) = false:=by decide)
  (hcd:(x == ("__classdict__" : Str)) = false:=by decide) (hs:swapsWith e (some (.Attribute (.Name x p) f p')) spos.line X.env = pure false:=by rfl) :
  DSi X E cs (.Assign [.Attribute (.Name x p) f p'] e spos :: rest) (tSeq (sFld X.K (tVar 0) te f) u) (iSet f me k):=by
 refine ⟨pss_cons (ps_fld (pe_var hN hv hd hcd) he.p hs) h.p,?_⟩
 intro x dx C c F0 H0 F H σ ρ fs fl hc hm r
 refine ansI_bind (w':=fun y H1 D=>(tVar 0) σ H1 fun z H2=>∃ a C dx fs,z = .ref a ∧ H2 a = some (.ins C dx fs) ∧ Cls X.K C ∧ NoAttr X.K C f ∧ fs.length < 1000 ∧ u D σ (upd H2 a (.ins C dx (putF f y fs)))) r (he.s F0 H0 F H σ ρ r.rep) fun d _ F1 H1 y g ry=>?_
 have r1:=r.gr g
 by_cases hb:(fl.map (·.1)).contains f = true ∨ 100 ≤ fl.length
 ·rw [if_pos hb];trivial
 rw [if_neg hb]
 obtain ⟨c1,c2⟩:=T c hc C hm
 have r2:=r1.set (f:=f) (fun z=>hb (.inl z)) ry
 have z:=h.s x dx C c F0 H0 F1 _ σ ρ _ _ hc hm r2
 have hl:fs.length < 1000:=by have:=r.fr.len;have:¬ 100 ≤ fl.length:=fun z=>hb (.inr z);omega
 generalize k ρ (fl ++ [(f,d)]) = q0 at z
 cases q0 with
 | ok fl'=>exact fun D q=>⟨_,r1.self,x,C,dx,fs,rfl,r1.hx,c1,c2,hl,z D q⟩
 | ex c=>exact fun D q=>⟨_,r1.self,x,C,dx,fs,rfl,r1.hx,c1,c2,hl,z D q⟩
 | bad=>trivial
end
structure ClsM (K:PySem.W.Frag) (C:Addr) (m:Str) (f:Addr):Prop where
 sg:PySem.W.specialIn K (.ref C) "__getattribute__" = some (some (.builtin "type.__getattribute__"))
 rd:∃ mc,PySem.W.readsIn K C mc = true ∧ PySem.W.findCls K (.ref C) mc m = some (.val (.ref f))
 hh:PySem.W.handedIn (.ref f) = true
 kp:PySem.W.keepIn K (.ref f) = true
section
variable {X:Cx} {E:XK} {k:Nat} {y m:Str} {C f:Addr} {fd:FuncData} {ps:List Str} {sp:Sp} {e:Expr} {es:List Expr} {t:TA} {p pos apos:Pos} {pl:Sem Bool}
theorem pe_clsm (hg:Gl X y) (hy:X.mg y = some (.ref C)) (c:ClsM X.K C m f) (F:FnOk X.prog X.w X.K X.mg X.base (CXR X.prog X.w) k f fd ps sp) (hr:Room k X.A) (hb:Binds X.K fd ps []) (hx:Passes (CXR X.prog X.w) X E) (ha:PA X (e :: es) t) (hd:(y == ("__debug__" : Str)) = false:=by decide)
  (hst:starEach (e :: es) X.env = (false,eval e X.env) :: starEach es X.env:=by rfl) (hpl:(backTo pos (starEach es X.env)).any (·.1) = false:=by rfl)
  (ht:eval (.Call (.Attribute (.Name y p) m apos) (e :: es) [] pos) X.env = (do
   let ov ← eval (.Name y p) X.env
   standAt apos.atName
   let (f,first) ← holding [ov] (getMethod ov m pl)
   callWith pos f first (backTo pos (starEach (e :: es) X.env)) (backToKw pos (keywordEach [] X.env))):=by rfl) :
  PE X (.Call (.Attribute (.Name y p) m apos) (e :: es) [] pos) (tCall sp [] E t):=by
 intro pins s σ H Q I h
 refine PySem.W.methodCall_KW (pl:=pl) (thn (pe_glob (v:=.ref C) hg hy rfl hd pins s σ H (fun v H1=>v = .ref C ∧ H1 = H) I ⟨rfl,rfl⟩) fun u s1 ⟨x,H1,I1,rx,ex,eh⟩=>?_) ht
 subst ex eh
 obtain rfl:u = Value.ref C:=rx
 obtain ⟨mc,r1,r2⟩:=c.rd
 refine PySem.W.method_cls I1.kIn c.sg (PySem.W.cls_value I1.kIn r1 r2 c.hh ?_)
 have I2:=I1.tok (s1.toks + 1)
 refine PySem.W.callWith_K (first:=[]) (h₀:=X.base) I.ok.mod.kin c.kp (thn (ha pos pins _ σ H1 _ I2 h) fun us s2 ⟨vs,H2,I3,r,q2⟩=>⟨I3.kIn,?_⟩) hst hpl
 exact run_fn (us:=us) (vs:=vs) (dvs:=[]) F hr hb .nil hx I3 r q2
end
structure CalS (P:Program) (w:World) (K:PySem.W.Frag) (mg:Str → Option Value) (base:Heap) (k:Nat) (y m:Str) (n:Nat) (cs:List Str) (g:List D → Fs → Res Fs):Prop where
 ex:∃ (C f:Addr) (fd:FuncData) (ps:List Str),mg y = some (.ref C) ∧ ClsM K C m f ∧ FnOk P w K mg base (CXR P w) k f fd ps (spI K mg n cs g) ∧ Binds K fd ps []
section
variable {X:Cx} {E:XK} {cs cs':List Str} {rest:List Stmt} {u:TS} {k:MSi} {e:Expr} {es:List Expr} {t:TA} {ma:MA} {spos pos apos p p':Pos} {x y m:Str} {n j l:Nat} {g:List D → Fs → Res Fs} {pl:Sem Bool}
theorem di_sup (S:CalS X.prog X.w X.K X.mg X.base j y m n cs' g) (hr:Room l X.A) (hn:j ≤ l) (hg:Gl X y) (hx:Passes (CXR X.prog X.w) X E) (hcs:∀ c,cs.contains c = true → cs'.contains c = true) (ha:DA X E n es t ma) (h:DSi X E cs rest u k)
  (hN:X.N[0]? = some x:=by rfl) (hv:Vis X.env.scope x:=by first | exact Or.inl rfl | exact Or.inr (Or.inl rfl) | exact Or.inr (Or.inr rfl)) (hd:(x == ("__debug__" : Str)) = false:=by decide) (hcd:(x == ("__classdict__" : Str)) = false:=by decide) (hdy:(y == ("__debug__" : Str)) = false:=by decide)
  (hst:starEach (.Name x p' :: es) X.env = (false,eval (.Name x p') X.env) :: starEach es X.env:=by rfl) (hpl:(backTo pos (starEach es X.env)).any (·.1) = false:=by rfl)
  (ht:eval (.Call (.Attribute (.Name y p) m apos) (.Name x p' :: es) [] pos) X.env = (do
   let ov ← eval (.Name y p) X.env
   standAt apos.atName
   let (f,first) ← holding [ov] (getMethod ov m pl)
   callWith pos f first (backTo pos (starEach (.Name x p' :: es) X.env)) (backToKw pos (keywordEach [] X.env))):=by rfl)
  (hs:swapsWith (.Call (.Attribute (.Name y p) m apos) (.Name x p' :: es) [] pos) none spos.line X.env = pure false:=by rfl) :
  DSi X E cs (.Expr (.Call (.Attribute (.Name y p) m apos) (.Name x p' :: es) [] pos) spos :: rest) (tSeq (tDrop (tCall (spI X.K X.mg n cs' g) [] E (tCons (tVar 0) t))) u) (iSup g ma k):=by
 obtain ⟨C0,f,fd,ps,hy,cm,F,hb⟩:=S.ex
 refine ⟨pss_cons (ps_expr (pe_clsm hg hy cm F (hr.mono hn) hb hx (pa_cons (pe_var hN hv hd hcd) ha.p hst) hdy hst hpl ht) hs) h.p,?_⟩
 intro x dx C c F0 H0 F H σ ρ fs fl hc hm r
 have A:=ha.s F0 H0 F H σ ρ r.rep
 have L:=ha.n ρ
 show AnsI X.K X.mg E x dx C F0 H0 ((ma ρ).bind fun ds=>(g ds fl).bind fun fl'=>k ρ fl') (fun D=>∃ v,σ[0]? = some (some v) ∧ t σ H fun vs H1=>spI X.K X.mg n cs' g (v :: vs ++ []) H1 (fun _ H2=>u D σ H2) E)
 have key:AnsI X.K X.mg E x dx C F0 H0 ((ma ρ).bind fun ds=>(g ds fl).bind fun fl'=>k ρ fl') (fun D=>t σ H fun vs H1=>spI X.K X.mg n cs' g (.ref x :: vs) H1 (fun _ H2=>u D σ H2) E):=by
  refine ansI_bind (w':=fun vs H1 D=>spI X.K X.mg n cs' g (.ref x :: vs) H1 (fun _ H2=>u D σ H2) E) r A fun ds eds F1 H1 vs g1 rs=>?_
  have r1:=r.gr g1
  have hl:vs.length = n:=rs.length.trans (L ds eds)
  cases eg:g ds fl with
  | bad=>trivial
  | ex ec =>
   show AnsI X.K X.mg E x dx C F0 H0 (.ex ec) _
   intro D q
   refine ⟨by rw [List.length_cons,hl],x,dx,C,c,vs,fs,F1,ds,fl,rfl,hcs c hc,hm,r1.hx,r1.fx,r1.rep.g.s,rs,r1.fr,(by rw [eg];intro z;cases z),(fun fl' e=>by rw [eg] at e;cases e),fun e' he F' H' fs' Ce g2 fx hx hce=>?_⟩
   rw [eg] at he
   cases he
   have r2:=r1.go (fl':=fl) (fs':=fs) (F':=F') (H':=H') g2 fx
   refine q F' H' fs' Ce ?_ fx hx hce
   refine ⟨r1.rep.g.f.trans g2.f,g2.s,fun a o h1 h2=>?_⟩
   obtain ⟨q1,q2⟩:=r1.rep.g.o a o h1 h2
   exact g2.o a o q1 (by rw [del_ne (ne_of_none h2 r.h0)];exact q2)
  | ok fl' =>
   show AnsI X.K X.mg E x dx C F0 H0 (k ρ fl') _
   have nx:∀ F' H' fs',Gr F1 (del H1 x) F' H' → F' x = none → H' x = some (.ins C dx fs') → FR X.K X.mg F' fs' fl' → AnsI X.K X.mg E x dx C F0 H0 (k ρ fl') (fun D=>u D σ H'):=fun F' H' fs' g2 fx hx fr=>h.s x dx C c F0 H0 F' H' σ ρ fs' fl' hc hm (r1.go g2 fx hx fr)
   generalize k ρ fl' = q0 at nx
   cases q0 with
   | bad=>trivial
   | ok fl2 =>
    intro D q
    refine ⟨by rw [List.length_cons,hl],x,dx,C,c,vs,fs,F1,ds,fl,rfl,hcs c hc,hm,r1.hx,r1.fx,r1.rep.g.s,rs,r1.fr,(by rw [eg];intro z;cases z),(fun fl'' e F' H' fs' g2 fx hx fr=>?_),fun e' he=>by rw [eg] at he;cases he⟩
    rw [eg] at e
    cases e
    exact nx F' H' fs' g2 fx hx fr D q
   | ex c2 =>
    intro D q
    refine ⟨by rw [List.length_cons,hl],x,dx,C,c,vs,fs,F1,ds,fl,rfl,hcs c hc,hm,r1.hx,r1.fx,r1.rep.g.s,rs,r1.fr,(by rw [eg];intro z;cases z),(fun fl'' e F' H' fs' g2 fx hx fr=>?_),fun e' he=>by rw [eg] at he;cases he⟩
    rw [eg] at e
    cases e
    exact nx F' H' fs' g2 fx hx fr D q
 generalize ((ma ρ).bind fun ds=>(g ds fl).bind fun fl'=>k ρ fl') = q0 at key
 cases q0 with
 | bad=>trivial
 | ok fl'=>exact fun D q=>⟨.ref x,r.self,by simpa using key D q⟩
 | ex c'=>exact fun D q=>⟨.ref x,r.self,by simpa using key D q⟩
end
section
variable {P:Program} {w:World} {K:PySem.W.Frag} {mg:Str → Option Value} {base:Heap} {N ps:List Str} {x qual:Str} {f:Addr} {cs:List Str}
theorem rep_startI {F H:Hp} {z:V} {a:Addr} {vs:List V} {ds:List D} (s:Same F H) (fa:F a = none) (r:Rps K mg F vs ds) (hN:1 ≤ N.length):Rep K mg F (del H a) F H (start N (z :: vs)) (.no :: ev0 (N.length - 1) ds):=by
 have hl:=r.length
 have key:∀ (i:Nat) (c:Cl),(ev0 (N.length - 1) ds)[i]? = some c → c = .no ∨ ∃ d,ds[i]? = some d ∧ c = .im d:=by
  intro i c e
  rw [ev0_eq] at e
  by_cases hi:i < ds.length
  ·rw [List.getElem?_append_left (by simpa using hi),List.getElem?_map,List.getElem?_eq_getElem hi] at e
   exact .inr ⟨ds[i],List.getElem?_eq_getElem hi,(Option.some.inj e).symm⟩
  ·rw [List.getElem?_append_right (by simpa using hi),List.getElem?_replicate] at e
   split at e
   ·exact .inl (Option.some.inj e).symm
   ·cases e
 have key2:∀ (i:Nat) (c:Cl),(Cl.no :: ev0 (N.length - 1) ds)[i]? = some c → c = .no ∨ ∃ d j,i = j + 1 ∧ ds[j]? = some d ∧ c = .im d:=by
  intro i c e
  cases i with
  | zero=>exact .inl (Option.some.inj e).symm
  | succ j =>
   rcases key j c (by simpa using e) with q | ⟨d,e1,e2⟩
   ·exact .inl q
   ·exact .inr ⟨d,j,rfl,e1,e2⟩
 refine ⟨⟨Same.refl _,s,fun b o h1 h2=>⟨h1,?_⟩⟩,?_,fun i d e=>?_,fun i ds' e=>?_,fun i j ds' es' a e=>?_⟩
 ·by_cases hb:b = a
  ·subst hb;rw [del_at] at h2;cases h2
  ·rw [del_ne hb] at h2;exact h2
 ·rw [ev0_eq]
  unfold start
  simp [hl]
  omega
 ·rcases key2 i _ e with q | ⟨d',j,rfl,e1,q⟩
  ·cases q
  ·cases q
   obtain ⟨v,e2,rv⟩:=r.get e1
   refine ⟨v,?_,rv⟩
   have hi:j < vs.length:=(List.getElem?_eq_some_iff.mp e2).1
   unfold start
   rw [List.map_cons,List.cons_append,List.getElem?_cons_succ,List.getElem?_append_left (by simpa using hi),List.getElem?_map,e2]
   rfl
 ·rcases key2 i _ e with q | ⟨d',j,_,e1,q⟩ <;> cases q
 ·rcases key2 i _ e with q | ⟨d',j,_,e1,q⟩ <;> cases q
theorem okI {st:Stmt} {fd:FuncData} {k n:Nat} {mb:MSi} (F:Fun K x qual st f fd) (S:FnScope N ps (defScope st)) (hN:1 ≤ N.length) (hp:ps.length = n + 1)
  (h:∀ (cdv:Value) (A:Around) (outer:List Env) (s:Shared) (H:Hp) (E:XK),Room k (A.deeper (envOfC qual (defScope st) s.heap.objs.size f cdv)) → ∃ t,DSi (cxOf (CXR P w) P w K mg base N qual (defScope st) f cdv A outer s H E) E cs (defBody st) t mb) :
  FnOk P w K mg base (CXR P w) (k + 1) f fd ps (spI K mg n cs (fnI N.length mb)):=by
 obtain ⟨oc,od,kV,doc,pm,an,cdv,ct,osl,rfl,lk,hcd⟩:=F.ex
 refine fn_of lk hcd S (fun vs H Q E q=>q.1.trans hp.symm) fun A outer s H vs Q E hr hsp=>?_
 obtain ⟨t,hd⟩:=h cdv A outer s H E hr
 refine ⟨t,hd.p,?_⟩
 obtain ⟨_,x,dx,C,c,ys,fs,F0,ds,fl,rfl,hc,hm,hx,fx,s0,rs,fr,hb,hok,hex⟩:=hsp
 have z:=hd.s x dx C c F0 (del H x) F0 H (start N (.ref x :: ys)) (.no :: ev0 (N.length - 1) ds) fs fl hc hm ⟨rep_startI s0 fx rs hN,del_at,rfl,fx,hx,fr⟩
 unfold fnI at hb hok hex
 cases e:mb (.no :: ev0 (N.length - 1) ds) fl with
 | ok fl' =>
  rw [e] at z
  exact z _ fun F' H' σ' fs' g fx' hx' fr'=>hok fl' e F' H' fs' g fx' hx' fr'
 | ex c' =>
  rw [e] at z
  exact z _ fun F' H' fs' Ce g fx' hx' hce=>hex c' e F' H' fs' Ce g fx' hx' hce
 | bad=>exact absurd e hb
theorem okM {st:Stmt} {fd:FuncData} {k:Nat} {mb:MS} (F:Fun K x qual st f fd) (S:FnScope N ps (defScope st))
  (h:∀ (cdv:Value) (A:Around) (outer:List Env) (s:Shared) (H:Hp) (E:XK),Room k (A.deeper (envOfC qual (defScope st) s.heap.objs.size f cdv)) → ∃ t,DSs (cxOf (CXR P w) P w K mg base N qual (defScope st) f cdv A outer s H E) E (defBody st) t mb) :
  FnOk P w K mg base (CXR P w) (k + 1) f fd ps (spD K mg ps.length (fn N.length mb)):=by
 obtain ⟨oc,od,kV,doc,pm,an,cdv,ct,osl,rfl,lk,hcd⟩:=F.ex
 refine fn_of lk hcd S (fun vs H Q E q=>q.1) fun A outer s H vs Q E hr hsp=>?_
 obtain ⟨t,hd⟩:=h cdv A outer s H E hr
 refine ⟨t,hd.p,?_⟩
 obtain ⟨_,F0,ds,s0,rs,hb,hok,hex⟩:=hsp
 have z:=hd.s F0 H F0 H (start N vs) (ev0 N.length ds) (rep_start s0 rs)
 unfold fn at hb hok hex
 cases e:mb (ev0 N.length ds) with
 | ok fl =>
  rw [e] at z hb hok hex
  cases fl with
  | nx ρ=>exact z _ fun F' H' σ' _ r'=>hok .non rfl F' H' .non r'.g .non
  | rt d=>exact z _ fun F' H' v g rv=>hok d rfl F' H' v g rv
  | bk ρ=>exact absurd rfl hb
  | ct ρ=>exact absurd rfl hb
 | ex c =>
  rw [e] at z hex
  exact z _ fun F' H' C g hc=>hex c rfl F' H' C g hc
 | bad=>rw [e] at hb;exact absurd rfl hb
end
structure CalI (P:Program) (w:World) (K:PySem.W.Frag) (mg:Str → Option Value) (base:Heap) (k:Nat) (c:Str) (n:Nat) (cs:List Str) (g:List D → Fs → Res Fs):Prop where
 ex:∃ (C f:Addr) (fd:FuncData) (ps:List Str),mg c = some (.ref C) ∧ Mk K C f ∧ FnOk P w K mg base (CXR P w) k f fd ps (spI K mg n cs g) ∧ Binds K fd ps [] ∧ cs.contains c = true
def tMakeG (K:PySem.W.Frag) (mg:Str → Option Value) (c:Str) (n:Nat) (cs:List Str) (g:List D → Fs → Res Fs) (E:XK) (t:TA):TE:=fun σ H Q=>∃ C,mg c = some (.ref C) ∧ tMake C (spI K mg n cs g) [] E t σ H Q
section
variable {K:PySem.W.Frag} {mg:Str → Option Value} {E:XK} {c:Str} {n:Nat} {cs:List Str} {g:List D → Fs → Res Fs} {t:TA} {ma:MA}
theorem se_make {C:Addr} (hm:mg c = some (.ref C)) (hc:cs.contains c = true) (ha:SA K mg E t ma) (hl:SAn n ma):SE K mg E (tMakeG K mg c n cs g E t) (make c g ma):=by
 intro F0 H0 F H σ ρ rr
 refine Ans.imp (w:=fun Q=>tMake C (spI K mg n cs g) [] E t σ H Q) ?_ fun Q q=>⟨C,hm,q⟩
 show Ans mg E (Rp K mg) F H ((ma ρ).bind fun ds=>(g ds []).bind fun fl=>.ok (.ins c (fl.map (·.1)) (fl.map (·.2)))) _
 refine (ha F0 H0 F H σ ρ rr).bindE (w':=fun vs H1 (Q:V → Hp → Prop)=>∀ x dx,H1 x = none → H1 dx = none → dx ≠ x → spI K mg n cs g (.ref x :: (vs ++ [])) (upd (upd H1 dx (.own x)) x (.ins C dx [])) (fun v H2=>v = .non ∧ Q (V.ref x) H2) E) fun ds eds F1 H1 vs g1 rs=>?_
 have hl':vs.length = n:=rs.length.trans (hl ρ ds eds)
 have base:∀ x dx,H1 x = none → H1 dx = none → dx ≠ x → F1 x = none ∧ F1 dx = none ∧ Same F1 (upd (upd H1 dx (.own x)) x (.ins C dx [])) ∧ del (upd (upd H1 dx (.own x)) x (.ins C dx [])) x = upd H1 dx (.own x):=by
  intro x dx hx hdx hne
  refine ⟨g1.s.free hx,g1.s.free hdx,fun a o e=>?_,?_⟩
  ·have z:=g1.s a o e
   rw [upd_ne (ne_of_none z hx),upd_ne (ne_of_none z hdx)]
   exact z
  ·funext a
   by_cases h:a = x
   ·subst h;rw [del_at,upd_ne (Ne.symm hne)];exact hx.symm
   ·rw [del_ne h,upd_ne h]
 cases eg:g ds [] with
 | bad=>trivial
 | ex ec =>
  show Ans mg E (Rp K mg) F1 H1 (.ex ec) _
  intro Q q x dx hx hdx hne
  obtain ⟨f1,f2,s1,e1⟩:=base x dx hx hdx hne
  refine ⟨by simp [hl'],x,dx,C,c,vs,[],F1,ds,[],by simp,hc,hm,upd_same,f1,s1,rs,⟨rfl,.nil⟩,(by rw [eg];intro z;cases z),(fun fl' e=>by rw [eg] at e;cases e),fun e' he F' H' fs' Ce g2 fx hx' hce=>?_⟩
  rw [eg] at he
  cases he
  rw [e1] at g2
  refine q F' H' Ce ⟨g2.f,g2.s,fun a o h1 h2=>?_⟩ hce
  exact g2.o a o h1 (by rw [upd_ne (ne_of_none h2 hdx)];exact h2)
 | ok fl =>
  show Ans mg E (Rp K mg) F1 H1 (.ok (.ins c (fl.map (·.1)) (fl.map (·.2)))) _
  intro Q q x dx hx hdx hne
  obtain ⟨f1,f2,s1,e1⟩:=base x dx hx hdx hne
  refine ⟨by simp [hl'],x,dx,C,c,vs,[],F1,ds,[],by simp,hc,hm,upd_same,f1,s1,rs,⟨rfl,.nil⟩,(by rw [eg];intro z;cases z),(fun fl' e F' H' fs' g2 fx hx' fr=>?_),fun e' he=>by rw [eg] at he;cases he⟩
  rw [eg] at e
  cases e
  rw [e1] at g2
  obtain ⟨d1,d2⟩:=g2.o dx _ f2 upd_same
  refine ⟨rfl,q (upd (upd F' dx (.own x)) x (.ins C dx fs')) H' (.ref x) ⟨?_,?_,fun a o h1 h2=>?_⟩ ?_⟩
  ·refine (g2.f.trans (same_new d1 _)).trans (same_new ?_ _)
   rw [upd_ne (Ne.symm hne)];exact fx
  ·intro a o e
   by_cases ha:a = x
   ·subst ha;rw [upd_same] at e;cases e;exact hx'
   ·rw [upd_ne ha] at e
    by_cases hb:a = dx
    ·subst hb;rw [upd_same] at e;cases e;exact d2
    ·rw [upd_ne hb] at e;exact g2.s a o e
  ·have n1:a ≠ x:=ne_of_none h2 hx
   have n2:a ≠ dx:=ne_of_none h2 hdx
   obtain ⟨q1,q2⟩:=g2.o a o h1 (by rw [upd_ne n2];exact h2)
   rw [upd_ne n1,upd_ne n2]
   exact ⟨q1,q2⟩
  ·have sF:Same F' (upd (upd F' dx (.own x)) x (.ins C dx fs')):=(same_new d1 _).trans (same_new (by rw [upd_ne (Ne.symm hne)];exact fx) _)
   have z:Rp K mg (upd (upd F' dx (.own x)) x (.ins C dx fs')) (.ref x) (.ins c (fs'.map (·.1)) (fl.map (·.2))):=.ins hm upd_same (by rw [upd_ne hne,upd_same]) rfl (fr.rv.same sF)
   rw [fr.nm] at z
   exact z
end
section
variable {X:Cx} {E:XK} {k l n:Nat} {c:Str} {cs:List Str} {g:List D → Fs → Res Fs} {e:Expr} {es:List Expr} {t:TA} {ma:MA} {p pos:Pos}
theorem d_make (M:CalI X.prog X.w X.K X.mg X.base k c n cs g) (hr:Room l X.A) (hn:k + 1 ≤ l) (hg:Gl X c) (hx:Passes (CXR X.prog X.w) X E) (ha:DA X E n (e :: es) t ma)
  (hdb:(c == ("__debug__" : Str)) = false:=by decide) (he:starEach (e :: es) X.env = (false,eval e X.env) :: starEach es X.env:=by rfl) (hpl:(backTo pos (starEach es X.env)).any (·.1) = false:=by rfl) :
  DE X E (.Call (.Name c p) (e :: es) [] pos) (tMakeG X.K X.mg c n cs g E t) (make c g ma):=by
 obtain ⟨C,f,fd,ps,hm,mk,F,hb,hc⟩:=M.ex
 refine ⟨?_,se_make hm hc ha.s ha.n⟩
 intro pins s σ H Q I ⟨C',hC,h⟩
 rw [hm] at hC
 cases hC
 exact pe_make mk F (hr.mono hn) hg hm hb .nil hx ha.p hdb he hpl pins s σ H Q I h
end
section
variable {X:Cx} {N:List Str} {scope:Scope} {cl:List (Str × Addr)} {C':Addr} {s:Shared} {H:Hp} {fp:List Addr} {pn:List (Addr × Obj)} {k l n:Nat} {c:Str} {cs:List Str} {g:List D → Fs → Res Fs} {e:Expr} {es:List Expr} {t:TA} {ma:MA} {p pos:Pos}
end
end L2.Ds
namespace Dl
open PySem
def insO (i:Nat) (k e:ME):MS:=fun ρ=>(getO ρ[i]?).bind fun xs=>(k ρ).bind fun u=>match u with
 | .int j=>(e ρ).bind fun d=>if (0 ≤ j ∧ j ≤ xs.length) ∧ xs.length < LIM then .ok (.nx (ρ.set i (.ow (xs.take j.toNat ++ d :: xs.drop j.toNat)))) else .bad
 | _=>.bad
end Dl
namespace L2
open PySem PySem.Spec PyProof.Rows
def rInsL:V → List V → Hp → VK → Prop:=fun x vs H Q=>∃ (l:Addr) (xs:List V) (j:Int) (y:V),x = .ref l ∧ vs = [.int j,y] ∧ H l = some (.lst xs) ∧ (0 ≤ j ∧ j ≤ xs.length) ∧ xs.length < sizeLine ∧ Q .non (upd H l (.lst (xs.take j.toNat ++ y :: xs.drop j.toNat)))
theorem Vals.takeN:∀ {xs:List V} {us:List Value} (n:Nat),Vals xs us → Vals (xs.take n) (us.take n)
 | _,_,0,_=>.nil
 | _,_,_ + 1,.nil=>.nil
 | _,_,n + 1,.cons h r=>.cons h (Vals.takeN n r)
theorem Vals.dropN:∀ {xs:List V} {us:List Value} (n:Nat),Vals xs us → Vals (xs.drop n) (us.drop n)
 | _,_,0,r=>r
 | _,_,_ + 1,.nil=>.nil
 | _,_,n + 1,.cons _ r=>Vals.dropN n r
theorem mt_insert {X:Cx}:MtR X "list.insert" rInsL:=by
 intro pins s σ H x vs v us Q I rx rv h
 obtain ⟨l,xs,j,y,rfl,rfl,hH,hj,hz,q⟩:=h
 cases rx
 cases rv with
 | @cons _ u0 _ us0 r1 rv =>
  have rv:Vals [y] us0:=rv
  obtain ⟨u,rfl,ru⟩:=rv.one
  obtain ⟨t,rfl⟩:=r1
  obtain ⟨z,its,n,r,hl,e⟩:=I.lstM hH
  have hs:sizeLine < 2 ^ 63:=by decide
  refine call_meets F.slot_list_insert ⟨_,e,rfl⟩ F.entry_list_insert (F.args_list_insert_3 _ _ _) (PySem.AutoSeq1.list_insert_list_int_val_1 l its.toArray n j t u (by rw [fitsIndex_both (by omega) (by omega)];exact Bool.false_ne_true) (by rw [List.size_toArray];omega)) ⟨e,?_⟩
  refine ⟨.non,_,I.lset (its':=its.take j.toNat ++ u :: its.drop j.toNat) hH e ?_ ((r.takeN j.toNat).append (.cons ru (r.dropN j.toNat))) ?_,rfl,q⟩
  ·have hk:(if j < 0 then (j + (its.toArray.size:Int)).toNat else min j.toNat its.toArray.size) = j.toNat:=by
    rw [if_neg (by omega),List.size_toArray]
    omega
   show (its.toArray.extract 0 (if j < 0 then (j + (its.toArray.size:Int)).toNat else min j.toNat its.toArray.size)).push u ++ its.toArray.extract (if j < 0 then (j + (its.toArray.size:Int)).toNat else min j.toNat its.toArray.size) = _
   rw [hk]
   apply Array.toList_inj.mp
   simp
   try rw [List.take_of_length_le (by simp)]
  ·rw [List.length_append,List.length_cons,List.length_take,List.length_drop]
   omega
end L2
namespace L2.Ds
open PySem PySem.Spec PyProof.Rows Dl
section
variable {K:PySem.W.Frag} {mg:Str → Option Value} {E:XK} {tk te:TE} {mk me:ME}
theorem ss_ins {i:Nat} (hk:SE K mg E tk mk) (ha:SE K mg E te me):SS K mg E (tDrop (tBM K "list" rInsL (tVar i) (tCons tk (tCons te tNil)))) (insO i mk me):=by
 intro F0 H0 F H σ ρ rr
 unfold insO getO
 split
 ·next ds e =>
  obtain ⟨a,xs,e2,e4,e5,e3,hr⟩:=rr.ow i ds e
  have hl:xs.length = ds.length:=hr.length
  have hty:tyV K "list" (.ref a) H:=.inl ⟨rfl,xs,SqL.of e3⟩
  have h:=(hk F0 H0 F H σ ρ rr).stm (K:=K) (k:=fun u=>match u with
   | .int j=>(me ρ).bind fun d=>if (0 ≤ j ∧ j ≤ ds.length) ∧ ds.length < LIM then .ok (.nx (ρ.set i (.ow (ds.take j.toNat ++ d :: ds.drop j.toNat)))) else .bad
   | _=>.bad) (w':=fun x H1 D=>te σ H1 fun y H2=>rInsL (.ref a) [x,y] H2 fun _ H3=>D.nx σ H3) rr.g fun u _ F1 H1 x g1 rx=>?_
  ·show AnsS K mg E F0 H0 F ((mk ρ).bind fun u=>match u with
    | .int j=>(me ρ).bind fun d=>if (0 ≤ j ∧ j ≤ ds.length) ∧ ds.length < LIM then .ok (.nx (ρ.set i (.ow (ds.take j.toNat ++ d :: ds.drop j.toNat)))) else .bad
    | _=>.bad) _
   have fin:∀ D:Ends,(tk σ H fun x H1=>te σ H1 fun y H2=>rInsL (.ref a) [x,y] H2 fun _ H3=>D.nx σ H3) → tDrop (tBM K "list" rInsL (tVar i) (tCons tk (tCons te tNil))) D σ H:=fun D z=>⟨.ref a,e2,hty,z⟩
   generalize ((mk ρ).bind fun u=>match u with
    | .int j=>(me ρ).bind fun d=>if (0 ≤ j ∧ j ≤ ds.length) ∧ ds.length < LIM then Res.ok (Fl.nx (ρ.set i (.ow (ds.take j.toNat ++ d :: ds.drop j.toNat)))) else .bad
    | _=>.bad) = res at h
   cases res with
   | ok f =>
    cases f with
    | nx ρ=>exact fun D q=>fin D (h D q)
    | bk ρ=>exact fun D q=>fin D (h D q)
    | ct ρ=>exact fun D q=>fin D (h D q)
    | rt d=>exact fun D q=>fin D (h D q)
   | ex c=>exact fun D q=>fin D (h D q)
   | bad=>trivial
  ·cases u with
   | int j =>
    cases rx
    have r1:=rr.gr g1
    obtain ⟨q1,q2⟩:=g1.o a _ e5 e3
    refine (ha F0 H0 F1 H1 σ ρ r1).stm (w':=fun y H2 D=>rInsL (.ref a) [.int j,y] H2 fun _ H3=>D.nx σ H3) r1.g fun d _ F2 H2 y g2 ry=>?_
    have r2:=r1.gr g2
    obtain ⟨p1,p2⟩:=g2.o a _ q1 q2
    have hr2:=(hr.same g1.f).same g2.f
    by_cases hc:(0 ≤ j ∧ j ≤ ds.length) ∧ ds.length < LIM
    ·rw [if_pos hc]
     exact fun D q=>⟨a,xs,j,y,rfl,rfl,p2,by rw [hl];exact hc.1,by rw [hl];exact Nat.lt_of_lt_of_le hc.2 (by decide),q F2 _ σ (Same.refl _) (r2.put e e2 p2 e4 p1 (Rps.app (.cons ry (hr2.drop j.toNat)) (hr2.take j.toNat)))⟩
    ·rw [if_neg hc];trivial
   | _=>trivial
 ·trivial
end
section
variable {X:Cx} {E:XK} {k' e:Expr} {tk te:TE} {mk me:ME} {x:Str} {np apos cpos spos:Pos}
theorem ds_ins (i:Nat) (hk:DE X E k' tk mk) (he:DE X E e te me) (hN:X.N[i]? = some x:=by rfl) (hv:Vis X.env.scope x:=by first | exact Or.inl rfl | exact Or.inr (Or.inl rfl) | exact Or.inr (Or.inr rfl)) (hd:(x == ("__debug__" : Str)) = false:=by decide)
  (hcd:(x == ("__classdict__" : Str)) = false:=by decide) (hbase:attributeBase (.Name x np) "insert" X.env (eval (.Name x np) X.env) = eval (.Name x np) X.env:=by rfl)
  (hfew:((backTo cpos (starEach [k',e] X.env)).all (fun x=>!x.1) && (backToKw cpos (keywordEach [] X.env)).all (fun x=>x.1.isSome)
   && decide ([k',e].length + ([]:List Keyword).length + (if ([]:List Keyword).isEmpty then 0 else 1) < 30)) = true:=by rfl)
  (hline:(apos.endLine == cpos.line) = true:=by rfl) (hs:starEach [k',e] X.env = (false,eval k' X.env) :: starEach [e] X.env:=by rfl) (hs2:starEach [e] X.env = (false,eval e X.env) :: starEach [] X.env:=by rfl) (hplain:(backTo cpos (starEach [e] X.env)).any (·.1) = false:=by rfl)
  (hsw:swapsWith (.Call (.Attribute (.Name x np) "insert" apos) [k',e] [] cpos) none spos.line X.env = pure false:=by rfl) :
  DS X E (.Expr (.Call (.Attribute (.Name x np) "insert" apos) [k',e] [] cpos) spos) (tDrop (tBM X.K "list" rInsL (tVar i) (tCons tk (tCons te tNil)))) (insO i mk me) :=
 ⟨ps_expr (pe_bm PySem.F.plainAttrs_list PySem.F.slot_list_insert PySem.F.type_list_insert mt_insert (pe_var hN hv hd hcd) (pa_cons hk.p (pa_cons he.p pa_nil hs2) hs) hbase hfew hline hs hplain) hsw,ss_ins hk.s he.s⟩
end
end L2.Ds
namespace Dl
open PySem
def dNeNil:D → D → Res D
 | .lst xs,.lst []=>.ok (.bl (!xs.isEmpty))
 | _,_=>.bad
end Dl
namespace L2
open PySem PySem.Spec PyProof.Rows
def rNeNil (K:PySem.W.Frag):R2:=fun x y H Q=>∃ (l b:Addr) (xs:List V),x = .ref l ∧ y = .ref b ∧ SqL K H l xs ∧ SqL K H b [] ∧ Q (.bl (!xs.isEmpty)) H
theorem op_neNil {X:Cx} (hu:X.A.units + 64 < cLine):OpR X (compareOp .NotEq) (rNeNil X.K):=by
 intro pins s σ H x y v u Q I rx ry h
 obtain ⟨l,b,xs,rfl,rfl,hx,hy,q⟩:=h
 cases rx
 cases ry
 obtain ⟨its,r,⟨o1,n1,e1,c1,d1,t1⟩,z1⟩:=I.list hx
 obtain ⟨its2,r2,⟨o2,n2,e2,c2,d2,t2⟩,z2⟩:=I.list hy
 have hl:s.heap.IsList l its.toArray:=⟨o1,e1,c1,n1,t1⟩
 have hb:s.heap.IsList b its2.toArray:=⟨o2,e2,c2,n2,t2⟩
 cases r2
 cases r with
 | nil =>
  refine (PySem.SeqAt.RcNeAt.lists (e:=fun _=>true) hl hb rfl (by omega) fun j h1 _=>absurd h1 (by simp)) X.prog X.w X.xe (EP X pins σ Q) ?_
  exact ⟨.bl false,H,I,rfl,q⟩
 | cons h r =>
  refine (PySem.SeqAt.RcNeAt.lists_lengths hl hb (by simp) (by omega)) X.prog X.w X.xe (EP X pins σ Q) ?_
  exact ⟨.bl true,H,I,rfl,q⟩
end L2
namespace L2.Ds
open PySem PySem.Spec PyProof.Rows PySem.Calls Dl
theorem opD_neNil {K:PySem.W.Frag} {mg:Str → Option Value}:OpD K mg (rNeNil K) dNeNil:=by
 intro E F H x y dx dy s rx ry
 unfold dNeNil
 split
 ·cases rx with
  | lst ha ra =>
   cases ry with
   | lst hb rb =>
    cases rb
    refine .ret s (.bl _) fun Q q=>⟨_,_,_,rfl,rfl,s.seq ha,s.seq hb,?_⟩
    cases ra <;> exact q
 ·trivial
section
variable {X:Cx} {E:XK} {a b:Expr} {ta tb:TE} {ma mb:ME} {pos:Pos} {k:Nat}
theorem dt_neNil (hr:Room k X.A) (ha:DE X E a ta ma) (hb:DE X E b tb mb):DT X E (.Compare a [.NotEq] [b] pos) (tTest (tOp (rNeNil X.K) ta tb)) (trb (o2 dNeNil ma mb)):=dt_cmp (op_neNil hr.units) opD_neNil ha hb (nomark _)
end
end L2.Ds
namespace Dl
open PySem
def fstr (a b:Str) (e:ME):ME:=fun ρ=>(e ρ).bind fun d=>match d with
 | .int i=>if (0 ≤ i ∧ i < 10) ∧ a.length + b.length ≤ 1000 then .ok (.str (a ++ Str.ofString (toString i) ++ b)) else .bad
 | _=>.bad
end Dl
namespace L2
open PySem PySem.Spec PyProof.Rows PySem.Calls
section
variable {X:Cx} {k:Nat} {x:Str} {C f:Addr} {fd:FuncData} {ps:List Str} {sp:Sp} {t:TA} {e:Expr} {es:List Expr} {p cpos epos:Pos}
end
end L2
namespace L2.Ds
open PySem PySem.Spec PyProof.Rows PySem.Calls Dl
end L2.Ds
namespace L2
open PySem PySem.Spec PyProof.Rows
section
variable {CX:CXT} {P:Program} {w:World} {K:PySem.W.Frag} {mg:Str → Option Value} {base:Heap} {N ps:List Str} {qual:Str} {scope:Scope} {f:Addr} {cd:Value} {A:Around} {outer:List Env} {s s1:Shared} {H:Hp} {E:XK} {us:List Value} {vs:List V}
end
end L2
namespace L2.Ds
open PySem PySem.Spec PyProof.Rows PySem.Calls Dl
section
variable {P:Program} {w:World} {K:PySem.W.Frag} {mg:Str → Option Value} {base:Heap} {N ps:List Str} {x:Str} {f:Addr}
end
section
variable {X:Cx} {k l n:Nat} {x:Str} {ps:List Str} {f:List D → Res D} {p pos:Pos} {e:Expr} {es:List Expr} {t:TA} {m:MA} {a:Addr}
end
end L2.Ds
namespace Dl
open PySem
end Dl
namespace HT
open PySem PyProof.Rows
section
variable {prog:Program} {w:World} {A:Around} {E:Value → Shared → Prop} {s:Shared}
end
end HT
namespace L2
open PySem PySem.Spec PyProof.Rows
section
variable {X:Cx} {e st:Expr} {te ts:TE} {p2 pos:Pos}
end
end L2
namespace L2.Ds
open PySem PySem.Spec PyProof.Rows Dl
section
variable {K:PySem.W.Frag} {mg:Str → Option Value} {E:XK} {G Gb F F' F0 H0 H:Hp} {x:V} {d:D} {σ:St} {ρ:Ev}
end
section
variable {X:Cx} {E:XK} {k l n i nn:Nat} {x y:Str} {ps:List Str} {f:List D → Res D} {t:TA} {m:MA} {e:Expr} {es:List Expr} {p pos pos' spos:Pos}
end
section
variable {X:Cx} {E:XK} {tg iter elt:Expr} {ts:List Expr} {me:ME} {na:MB} {pos spos:Pos}
end
section
variable {P:Program} {w:World} {K:PySem.W.Frag} {mg:Str → Option Value} {base:Heap} {N ps:List Str} {x:Str}
end
section
variable {K:PySem.W.Frag} {mg:Str → Option Value} {x dx C:Addr} {G F0 H0 F H F' H':Hp} {σ:St} {ρ:Ev} {fs fs':List (Str × V)} {fl fl':Fs}
end
section
variable {K:PySem.W.Frag} {mg:Str → Option Value} {E:XK} {G:Hp} {x dx C:Addr} {F0 H0 F H:Hp} {α β:Type} {R:Hp → β → α → Prop} {σ:St} {ρ:Ev} {fs:List (Str × V)} {fl:Fs}
end
section
variable {X:Cx} {E:XK} {cs cs':List Str} {rest:List Stmt} {u:TS} {k:MSi} {e o:Expr} {es:List Expr} {te:TE} {me:ME} {t:TA} {ma:MA} {spos pos apos p p':Pos} {f x y m:Str} {n j l:Nat}
end
section
variable {X:Cx} {E:XK} {cs cs':List Str} {rest:List Stmt} {u:TS} {k:MSi} {e:Expr} {es:List Expr} {t:TA} {ma:MA} {spos pos apos p p':Pos} {x y m:Str} {n j l:Nat} {g:List D → Fs → Res Fs} {pl:Sem Bool}
end
section
variable {P:Program} {w:World} {K:PySem.W.Frag} {mg:Str → Option Value} {base:Heap} {N ps:List Str} {x qual:Str} {f:Addr} {cs:List Str}
end
section
variable {K:PySem.W.Frag} {mg:Str → Option Value} {E:XK} {c:Str} {n:Nat} {cs:List Str} {g:List D → Fs → Res Fs} {t:TA} {ma:MA}
end
section
variable {X:Cx} {E:XK} {k l n:Nat} {c:Str} {cs:List Str} {g:List D → Fs → Res Fs} {e:Expr} {es:List Expr} {t:TA} {ma:MA} {p pos:Pos}
end
end L2.Ds
namespace Dl
open PySem
end Dl
namespace L2.Ds
open PySem PySem.Spec PyProof.Rows Dl
section
variable {K:PySem.W.Frag} {mg:Str → Option Value} {E:XK} {G Gb F F' F0 H0 H:Hp} {x:V} {d:D} {σ:St} {ρ:Ev}
end
section
variable {X:Cx} {E:XK} {k l n i nn:Nat} {x y:Str} {ps:List Str} {f:List D → Res D} {t:TA} {m:MA} {e:Expr} {es:List Expr} {p pos pos' spos:Pos}
end
section
variable {P:Program} {w:World} {K:PySem.W.Frag} {mg:Str → Option Value} {base:Heap} {N ps:List Str} {x:Str}
end
section
variable {X:Cx} {E:XK} {i:Nat} {y:Str} {te tv:TE} {me mv:ME} {e c' ev:Expr} {sa:TT} {na:MB} {kb kr:MS} {ub ur:TS} {body rest:List Stmt}
end
end L2.Ds
namespace Dl
open PySem
end Dl
namespace Dl
open PySem
end Dl
namespace L2.Ds
open PySem PySem.Spec PyProof.Rows Dl
section
variable {K:PySem.W.Frag} {mg:Str → Option Value} {E:XK} {F0 H0 F H:Hp} {σ:St} {ρ:Ev}
end
end L2.Ds
namespace L2.Ds
open PySem PySem.Spec PyProof.Rows Dl
section
variable {K:PySem.W.Frag} {mg:Str → Option Value} {E:XK} {G Gb F F' F0 H0 H:Hp} {x:V} {d:D} {σ:St} {ρ:Ev}
end
section
variable {X:Cx} {E:XK} {k l n i nn:Nat} {x y:Str} {ps:List Str} {f:List D → Res D} {t:TA} {m:MA} {e:Expr} {es:List Expr} {p pos pos' spos:Pos}
end
section
variable {P:Program} {w:World} {K:PySem.W.Frag} {mg:Str → Option Value} {base:Heap} {N ps:List Str} {x:Str}
end
end L2.Ds
namespace L2.Ds
open PySem PySem.Spec PyProof.Rows Dl
section
variable {X:Cx} {E:XK} {i:Nat} {c c':Int} {y:Str} {te:TE} {me:ME} {e:Expr} {kr:MS} {ur:TS} {rest:List Stmt}
end
section
variable {P:Program} {w:World} {K:PySem.W.Frag} {mg:Str → Option Value} {base:Heap} {N ps:List Str} {x:Str}
end
section
variable {K:PySem.W.Frag} {mg:Str → Option Value} {E:XK} {F0 H0 F H:Hp} {σ:St} {ρ:Ev}
end
section
variable {X:Cx} {E:XK} {i k l n:Nat} {f:List D → List D → Res D} {t1 t2:TE} {m1 m2:ME} {ub ur:TS} {kb kr:MS} {e1 e2:Expr} {x y:Str} {ps:List Str} {body rest:List Stmt} {p pos npos spos upos:Pos}
end
section
variable {X:Cx} {E:XK} {k l n:Nat} {f:List D → Res D} {t:TA} {m:MA} {te:TE} {me:ME} {e ev:Expr} {es:List Expr} {x:Str} {ps:List Str} {p pos apos cpos spos:Pos}
end
section
variable {X:Cx} {E:XK} {i jk jw jq jv:Nat} {te tE:TE} {m0 mE:ME} {e0 eE:Expr} {xp xk xw xq xv:Str} {a1 a2 a3 a4 a5 a6 a7 a8 a9 b1 b2 b3 b4 b5 b6 b7 b8 b9 c1 c2 c3 c4 c5 c6:Pos}
end
end L2.Ds
namespace L2.Ds
open PySem PySem.Spec PyProof.Rows Dl
section
variable {K:PySem.W.Frag} {mg:Str → Option Value} {E:XK}
end
section
variable {X:Cx} {E:XK} {i j:Nat} {iter:Expr} {x:Str} {tpos spos:Pos}
end
end L2.Ds
namespace Dl
open PySem
def Sm (k:Nat) (x:Int):Prop:=x.natAbs < 2 ^ k
theorem Sm.mono {k n:Nat} {x:Int} (h:Sm k x) (hn:k ≤ n):Sm n x:=Nat.lt_of_lt_of_le h (Nat.pow_le_pow_right (by decide) hn)
theorem Sm.mul {m n:Nat} {x y:Int} (h:Sm m x) (g:Sm n y):Sm (m + n) (x * y):=by
 unfold Sm at *
 rw [Int.natAbs_mul,Nat.pow_add]
 rcases Nat.eq_zero_or_pos x.natAbs with z | z
 ·rw [z,Nat.zero_mul];exact Nat.mul_pos (Nat.two_pow_pos _) (Nat.two_pow_pos _)
 ·exact Nat.lt_of_le_of_lt (Nat.mul_le_mul_left _ (Nat.le_of_lt g)) (Nat.mul_lt_mul_of_pos_right h (Nat.two_pow_pos _))
theorem Sm.add {m n:Nat} {x y:Int} (h:Sm m x) (g:Sm n y):Sm (max m n + 1) (x + y):=by
 have h':=h.mono (Nat.le_max_left m n)
 have g':=g.mono (Nat.le_max_right m n)
 unfold Sm at *
 rw [Nat.pow_succ]
 have:=Int.natAbs_add_le x y
 omega
theorem Sm.neg {m:Nat} {x:Int} (h:Sm m x):Sm m (-x):=by
 unfold Sm at *
 rw [Int.natAbs_neg]
 exact h
theorem Sm.sub {m n:Nat} {x y:Int} (h:Sm m x) (g:Sm n y):Sm (max m n + 1) (x - y):=by
 rw [Int.sub_eq_add_neg];exact h.add g.neg
theorem Sm.le {m:Nat} {x y:Int} (h:Sm m x) (e:y.natAbs ≤ x.natAbs):Sm m y:=Nat.lt_of_le_of_lt e h
theorem Sm.of64 {x:Int} (h1:-18446744073709551616 < x) (h2:x < 18446744073709551616):Sm 64 x:=by
 unfold Sm
 have:(2:Nat) ^ 64 = 18446744073709551616:=by decide
 omega
theorem log_lt {n k:Nat} (h:n < 2 ^ k) (hk:0 < k):n.log2 < k:=by
 rcases Nat.eq_zero_or_pos n with z | z
 ·rw [z];simpa using hk
 ·exact (Nat.log2_lt (Nat.ne_of_gt z)).mpr h
theorem Sm.log {m:Nat} {x:Int} (h:Sm m x) (hm:m < 9000):x.natAbs.log2 < 9000:=log_lt (h.mono (Nat.le_of_lt hm)) (by decide)
theorem mulOk_l {a b:Int} (h:Sm 64 a):mulOk a b = true:=by
 unfold mulOk
 rw [decide_eq_true (show a.natAbs < 2 ^ 64 from h)];rfl
theorem mulOk_r {a b:Int} (h:Sm 64 b):mulOk a b = true:=by
 unfold mulOk
 rw [decide_eq_true (show b.natAbs < 2 ^ 64 from h)]
 simp
theorem mulOk_s {a b:Int} {m n:Nat} (h:Sm m a) (g:Sm n b) (hk:m + n < 99999990):mulOk a b = true:=by
 have h1:=log_lt (h.mono (Nat.le_succ m)) (Nat.succ_pos _)
 have h2:=log_lt (g.mono (Nat.le_succ n)) (Nat.succ_pos _)
 unfold mulOk
 rw [decide_eq_true (show a.natAbs.log2 + b.natAbs.log2 < 100000000 by omega)]
 simp
theorem iMul_ok {a b:Int} (h:mulOk a b = true):iMul a b = .ok (.int (a * b)):=by unfold iMul;rw [if_pos h]
theorem iMod_pos {a b:Int} (h:0 < b):iMod a b = .ok (.int (a % b)):=by unfold iMod;rw [if_pos h]
theorem iDiv_pos {a b:Int} (h:0 < b) (hl:b.natAbs.log2 < 9000):iDiv a b = .ok (.int (a / b)):=by unfold iDiv;rw [if_pos hl,if_pos h]
theorem iDiv_neg {a b:Int} (h:b < 0) (hl:b.natAbs.log2 < 9000):iDiv a b = .ok (.int (a.fdiv b)):=by unfold iDiv;rw [if_pos hl,if_neg (by omega),if_neg (by omega)]
theorem iPow_ok {a b:Int} (h0:0 ≤ b) (h1:b ≤ 1000000) (h2:a.natAbs < 2 ^ 64):iPow a b = .ok (.int (a ^ b.toNat)):=by unfold iPow;rw [if_pos ⟨h0,h1,h2⟩]
theorem iShl_ok {a b:Int} (h0:0 ≤ b) (h1:b ≤ 1000000) (h2:a.natAbs < 2 ^ 64):iShl a b = .ok (.int (a * 2 ^ b.toNat)):=by unfold iShl;rw [if_pos ⟨h0,h1,h2⟩]
theorem iShr_ok {a b:Int} (h0:0 ≤ b):iShr a b = .ok (.int (a / 2 ^ b.toNat)):=by unfold iShr;rw [if_pos h0]
theorem dEq_int (a b:Int):dEq (.int a) (.int b) = .ok (.bl (decide (a = b))):=by
 show Res.ok (D.bl (a == b)) = _
 rw [Bool.beq_eq_decide_eq]
theorem dNe_int (a b:Int):dNe (.int a) (.int b) = .ok (.bl (!decide (a = b))):=by
 show Res.ok (D.bl (!(a == b))) = _
 rw [Bool.beq_eq_decide_eq]
theorem dAdd_lst {a b:List D} (h:a.length + b.length ≤ 1000000):dAdd (.lst a) (.lst b) = .ok (.lst (a ++ b)):=by
 show (if a.length + b.length ≤ LIM then Res.ok (D.lst (a ++ b)) else .bad) = _
 rw [if_pos (show a.length + b.length ≤ LIM from h)]
theorem dIx_lst (xs:List D) (i:Int):dIx (.lst xs) (.int i) = ofO (at_ xs i):=rfl
theorem bLen_lst (xs:List D):bLen [.lst xs] = .ok (.int xs.length):=rfl
theorem bLen_tup (xs:List D):bLen [.tup xs] = .ok (.int xs.length):=rfl
theorem bAbs_int (i:Int):bAbs [.int i] = .ok (.int i.natAbs):=by
 show Res.ok (D.int (if i < 0 then -i else i)) = _
 have:(if i < 0 then -i else i) = (i.natAbs:Int):=by split <;> omega
 rw [this]
theorem rng1_ok {j:Int} (h0:-1000000000 ≤ j) (h1:j ≤ 1000000000):rng1 [.int j] = .ok (rangeD 0 j.toNat):=by
 show (if -1000000000 ≤ j ∧ j ≤ 1000000000 then Res.ok (rangeD 0 j.toNat) else .bad) = _
 rw [if_pos ⟨h0,h1⟩]
theorem for_inv_pre {g:MG} {b:MS} (I:List D → Ev → Prop):∀ (xs pre:List D),(∀ p x r,xs = p ++ x :: r → ∀ ρ,I (pre ++ p) ρ → ∃ ρ1 ρ2,g x ρ = .ok ρ1 ∧ b ρ1 = .ok (.nx ρ2) ∧ I (pre ++ p ++ [x]) ρ2) → ∀ ρ,I pre ρ → ∃ ρ',forGo g b xs ρ = .ok (.nx ρ') ∧ I (pre ++ xs) ρ'
 | [],pre,_,ρ,i=>⟨ρ,rfl,by rw [List.append_nil];exact i⟩
 | x :: r,pre,h,ρ,i=>by
  obtain ⟨ρ1,ρ2,h1,h2,i2⟩:=h [] x r rfl ρ (by rw [List.append_nil];exact i)
  rw [List.append_nil] at i2
  obtain ⟨ρ',h3,i3⟩:=for_inv_pre I r (pre ++ [x]) (fun p y s e ρ i=>by
   have z:=h (x :: p) y s (by rw [e];rfl) ρ (by simpa using i)
   simpa using z) ρ2 i2
  refine ⟨ρ',?_,by simpa using i3⟩
  show (g x ρ).bind (fun ρ1=>(b ρ1).bind (turn (forGo g b r))) = _
  rw [h1]
  show (b ρ1).bind (turn (forGo g b r)) = _
  rw [h2]
  exact h3
theorem whGo_succ (t:MB) (b:MS) (n:Nat) (ρ:Ev):whGo t b (n + 1) ρ = (t ρ).bind fun x=>if x = true then (b ρ).bind (turn (whGo t b n)) else .ok (.nx ρ):=rfl
theorem compGo_cons (g:MG) (t:MB) (e:ME) (ρ:Ev) (x:D) (r:List D):compGo g t e ρ (x :: r) = (g x ρ).bind fun ρ1=>(t ρ1).bind fun b=>if b = true then (e ρ1).bind fun y=>(compGo g t e ρ r).bind fun ys=>.ok (y :: ys) else compGo g t e ρ r:=rfl
theorem comp_all {g:MG} {e:ME} {ρ:Ev} (P:D → D → Prop):∀ xs:List D,(∀ x ∈ xs,∃ ρ1 y,g x ρ = .ok ρ1 ∧ e ρ1 = .ok y ∧ P x y) → ∃ ys,compGo g yes e ρ xs = .ok ys ∧ ys.length = xs.length ∧ ∀ (i:Nat) x y,xs[i]? = some x → ys[i]? = some y → P x y
 | [],_=>⟨[],rfl,rfl,fun i x y h=>by simp at h⟩
 | x :: r,h=>by
  obtain ⟨ρ1,y,h1,h2,hp⟩:=h x List.mem_cons_self
  obtain ⟨ys,e1,l1,q⟩:=comp_all P r fun z hz=>h z (List.mem_cons_of_mem _ hz)
  refine ⟨y :: ys,?_,congrArg (· + 1) l1,fun i a b ha hb=>?_⟩
  ·rw [compGo_cons,h1,ok_bind]
   unfold yes at e1 ⊢
   rw [ok_bind,if_pos rfl,h2,ok_bind,e1]
   rfl
  ·cases i with
   | zero=>simp at ha hb;subst ha hb;exact hp
   | succ i=>exact q i a b (by simpa using ha) (by simpa using hb)
end Dl
namespace Dl
open PySem
def Tl {α:Type} (r:Res α) (Φ:α → Prop):Prop:=∃ a,r = .ok a ∧ Φ a
section
variable {α β:Type} {Φ:α → Prop} {ρ:Ev} {a b d:ME} {s t:MB} {i j:Nat}
theorem tl_of {r:Res α} {x:α} (e:r = .ok x) (h:Φ x):Tl r Φ:=⟨x,e,h⟩
theorem tl_ok {x:α} (h:Φ x):Tl (.ok x) Φ:=⟨x,rfl,h⟩
theorem tl_bind {r:Res β} {f:β → Res α} (h:Tl r fun x=>Tl (f x) Φ):Tl (r.bind f) Φ:=by
 obtain ⟨x,rfl,y,e,q⟩:=h
 exact ⟨y,e,q⟩
theorem Tl.mono {r:Res α} {Ψ:α → Prop} (h:Tl r Ψ) (k:∀ x,Ψ x → Φ x):Tl r Φ:=by
 obtain ⟨x,e,q⟩:=h
 exact ⟨x,e,k x q⟩
theorem Tl.eq {r:Res α} {x:α} (h:Tl r (· = x)):r = .ok x:=by
 obtain ⟨y,e,rfl⟩:=h
 exact e
theorem w_iteT {c:Bool} {A B:Res α} (hc:c = true) (h:Tl A Φ):Tl (if c = true then A else B) Φ:=by rw [if_pos hc];exact h
theorem w_iteF {c:Bool} {A B:Res α} (hc:c = false) (h:Tl B Φ):Tl (if c = true then A else B) Φ:=by rw [if_neg (by rw [hc];exact Bool.false_ne_true)];exact h
theorem w_dT {P:Prop} [Decidable P] {A B:Res α} (hc:P) (h:Tl A Φ):Tl (if decide P = true then A else B) Φ:=w_iteT (decide_eq_true hc) h
theorem w_dF {P:Prop} [Decidable P] {A B:Res α} (hc:¬ P) (h:Tl B Φ):Tl (if decide P = true then A else B) Φ:=w_iteF (decide_eq_false hc) h
theorem w_nT {P:Prop} [Decidable P] {A B:Res α} (hc:¬ P) (h:Tl A Φ):Tl (if (!decide P) = true then A else B) Φ:=w_iteT (by rw [decide_eq_false hc];rfl) h
theorem w_nF {P:Prop} [Decidable P] {A B:Res α} (hc:P) (h:Tl B Φ):Tl (if (!decide P) = true then A else B) Φ:=w_iteF (by rw [decide_eq_true hc];rfl) h
theorem w_dec {P:Prop} [Decidable P] {A B:Res α} (h1:P → Tl A Φ) (h2:¬ P → Tl B Φ):Tl (if decide P = true then A else B) Φ:=by
 by_cases h:P
 ·exact w_dT h (h1 h)
 ·exact w_dF h (h2 h)
theorem w_ndec {P:Prop} [Decidable P] {A B:Res α} (h1:¬ P → Tl A Φ) (h2:P → Tl B Φ):Tl (if (!decide P) = true then A else B) Φ:=by
 by_cases h:P
 ·exact w_nF h (h2 h)
 ·exact w_nT h (h1 h)
end
section
variable {Φ:D → Prop} {ρ:Ev} {a b d:ME} {s t:MB} {i j n:Nat} {m:MA}
theorem w_v' (h:Tl (getC ρ[i]?) Φ):Tl (v i ρ) Φ:=h
theorem w_gC {o:Option Cl} {x:D} (e:o = some (.im x)) (h:Φ x):Tl (getC o) Φ:=tl_of (by rw [e];rfl) h
theorem w_c {x:D} (h:Φ x):Tl (c x ρ) Φ:=tl_ok h
theorem w_o1 {f:D → Res D} (h:Tl (a ρ) fun x=>Tl (f x) Φ):Tl (o1 f a ρ) Φ:=tl_bind h
theorem w_o2 {f:D → D → Res D} (h:Tl (a ρ) fun x=>Tl (b ρ) fun y=>Tl (f x y) Φ):Tl (o2 f a b ρ) Φ:=tl_bind (h.mono fun _ q=>tl_bind q)
theorem w_on {f:List D → Res D} (h:Tl (m ρ) fun xs=>Tl (f xs) Φ):Tl (on f m ρ) Φ:=tl_bind h
theorem w_mtp (h:Tl (m ρ) fun xs=>Φ (.tup xs)):Tl (mtp m ρ) Φ:=tl_bind (h.mono fun _ q=>tl_ok q)
theorem w_mls (h:Tl (m ρ) fun xs=>Φ (.lst xs)):Tl (mls m ρ) Φ:=tl_bind (h.mono fun _ q=>tl_ok q)
theorem w_eAnd (h:Tl (trb a ρ) fun x=>Tl (if x = true then b ρ else .ok (.bl false)) Φ):Tl (eAnd a b ρ) Φ:=tl_bind h
theorem w_eNot (h:Tl (trb a ρ) fun x=>Φ (.bl (!x))):Tl (eNot a ρ) Φ:=tl_bind (h.mono fun _ q=>tl_ok q)
theorem w_ife (h:Tl (t ρ) fun x=>Tl (if x = true then a ρ else b ρ) Φ):Tl (ife t a b ρ) Φ:=tl_bind h
theorem w_cut {lo hi:Ev → Res (Option Int)} (h:Tl (a ρ) fun x=>Tl (lo ρ) fun l=>Tl (hi ρ) fun u=>Tl (dCut x l u) Φ):Tl (cut a lo hi ρ) Φ:=tl_bind (h.mono fun _ q=>tl_bind (q.mono fun _ q=>tl_bind q))
theorem w_comp {it:MI} {own:Nat} {cap:List Nat} {g:MG} {e:ME} (h:Tl (it ρ) fun xs=>xs.length ≤ 1000000 ∧ Tl (compGo g t e (noA own (capD ρ cap)) xs) fun ys=>Φ (.lst ys)):Tl (comp it own cap g t e ρ) Φ:=by
 refine tl_bind (h.mono fun xs q=>?_)
 rw [if_pos (show xs.length ≤ LIM from q.1)]
 obtain ⟨ys,e1,q2⟩:=q.2
 rw [e1]
 exact tl_ok q2
theorem w_fn {k:MS} {ds:List D} (h:Tl (k (ev0 n ds)) fun f=>Tl (endOf f) Φ):Tl (fn n k ds) Φ:=tl_bind h
theorem w_addI {x y:Int} (h:Φ (.int (x + y))):Tl (dAdd (.int x) (.int y)) Φ:=tl_ok h
theorem w_addL {x y:List D} (hl:x.length + y.length ≤ 1000000) (h:Φ (.lst (x ++ y))):Tl (dAdd (.lst x) (.lst y)) Φ:=tl_of (dAdd_lst hl) h
theorem w_sub {x y:Int} (h:Φ (.int (x - y))):Tl (dSub (.int x) (.int y)) Φ:=tl_ok h
theorem w_mul {x y:Int} (hm:mulOk x y = true) (h:Φ (.int (x * y))):Tl (dMul (.int x) (.int y)) Φ:=tl_of (iMul_ok hm) h
theorem w_mod {x y:Int} (hy:0 < y) (h:Φ (.int (x % y))):Tl (dMod (.int x) (.int y)) Φ:=tl_of (iMod_pos hy) h
theorem w_div {x y:Int} (hy:0 < y) (hl:y.natAbs.log2 < 9000) (h:Φ (.int (x / y))):Tl (dDiv (.int x) (.int y)) Φ:=tl_of (iDiv_pos hy hl) h
theorem w_divN {x y:Int} (hy:y < 0) (hl:y.natAbs.log2 < 9000) (h:Φ (.int (x.fdiv y))):Tl (dDiv (.int x) (.int y)) Φ:=tl_of (iDiv_neg hy hl) h
theorem w_pow {x y:Int} (h0:0 ≤ y) (h1:y ≤ 1000000) (h2:x.natAbs < 2 ^ 64) (h:Φ (.int (x ^ y.toNat))):Tl (dPow (.int x) (.int y)) Φ:=tl_of (iPow_ok h0 h1 h2) h
theorem w_shl {x y:Int} (h0:0 ≤ y) (h1:y ≤ 1000000) (h2:x.natAbs < 2 ^ 64) (h:Φ (.int (x * 2 ^ y.toNat))):Tl (dShl (.int x) (.int y)) Φ:=tl_of (iShl_ok h0 h1 h2) h
theorem w_shr {x y:Int} (h0:0 ≤ y) (h:Φ (.int (x / 2 ^ y.toNat))):Tl (dShr (.int x) (.int y)) Φ:=tl_of (iShr_ok h0) h
theorem w_neg {x:Int} (h:Φ (.int (-x))):Tl (dNeg (.int x)) Φ:=tl_ok h
theorem w_lt {x y:Int} (h:Φ (.bl (decide (x < y)))):Tl (dLt (.int x) (.int y)) Φ:=tl_ok h
theorem w_le {x y:Int} (h:Φ (.bl (decide (x ≤ y)))):Tl (dLe (.int x) (.int y)) Φ:=tl_ok h
theorem w_gt {x y:Int} (h:Φ (.bl (decide (y < x)))):Tl (dGt (.int x) (.int y)) Φ:=tl_ok h
theorem w_ge {x y:Int} (h:Φ (.bl (decide (y ≤ x)))):Tl (dGe (.int x) (.int y)) Φ:=tl_ok h
theorem w_eqI {x y:Int} (h:Φ (.bl (decide (x = y)))):Tl (dEq (.int x) (.int y)) Φ:=tl_of (dEq_int x y) h
theorem w_neI {x y:Int} (h:Φ (.bl (!decide (x = y)))):Tl (dNe (.int x) (.int y)) Φ:=tl_of (dNe_int x y) h
theorem w_isN {x:D} (h:Φ (.bl (isNon x))):Tl (dIsN x) Φ:=tl_ok h
theorem w_notN {x:D} (h:Φ (.bl (!isNon x))):Tl (dNotN x) Φ:=tl_ok h
theorem w_lenL {xs:List D} (h:Φ (.int xs.length)):Tl (bLen [.lst xs]) Φ:=tl_ok h
theorem w_lenT {xs:List D} (h:Φ (.int xs.length)):Tl (bLen [.tup xs]) Φ:=tl_ok h
theorem w_lenMT {ns:List Int} (h:Φ (.int ns.length)):Tl (bLen [.tup (ns.map .int)]) Φ:=tl_of (by rw [bLen_tup,List.length_map]) h
theorem w_lenML {ns:List Int} (h:Φ (.int ns.length)):Tl (bLen [.lst (ns.map .int)]) Φ:=tl_of (by rw [bLen_lst,List.length_map]) h
theorem w_abs {x:Int} (h:Φ (.int x.natAbs)):Tl (bAbs [.int x]) Φ:=tl_of (bAbs_int x) h
theorem w_tupL {xs:List D} (h:Φ (.tup xs)):Tl (bTup [.lst xs]) Φ:=tl_ok h
theorem w_lstL {xs:List D} (h:Φ (.lst xs)):Tl (bLst [.lst xs]) Φ:=tl_ok h
theorem w_cutL {xs:List D} {lo hi:Option Int} (h:Φ (.lst (cutL xs lo hi))):Tl (dCut (.lst xs) lo hi) Φ:=tl_ok h
theorem w_cutT {xs:List D} {lo hi:Option Int} (h:Φ (.tup (cutL xs lo hi))):Tl (dCut (.tup xs) lo hi) Φ:=tl_ok h
end
section
variable {Φ:Bool → Prop} {ρ:Ev} {a:ME} {s t:MB}
theorem w_trb (h:Tl (a ρ) fun x=>Tl (tru x) Φ):Tl (trb a ρ) Φ:=tl_bind h
theorem w_tru {b:Bool} (h:Φ b):Tl (tru (.bl b)) Φ:=tl_ok h
theorem w_bAnd (h:Tl (s ρ) fun x=>Tl (if x = true then t ρ else .ok false) Φ):Tl (bAnd s t ρ) Φ:=tl_bind h
theorem w_bOr (h:Tl (s ρ) fun x=>Tl (if x = true then .ok true else t ρ) Φ):Tl (bOr s t ρ) Φ:=tl_bind h
theorem w_bNot (h:Tl (s ρ) fun x=>Φ (!x)):Tl (bNot s ρ) Φ:=tl_bind (h.mono fun _ q=>tl_ok q)
theorem w_yes (h:Φ true):Tl (yes ρ) Φ:=tl_ok h
end
section
variable {Φ:List D → Prop} {ρ:Ev} {a:ME} {m:MA}
theorem w_anil (h:Φ []):Tl (anil ρ) Φ:=tl_ok h
theorem w_acons (h:Tl (a ρ) fun x=>Tl (m ρ) fun xs=>Φ (x :: xs)):Tl (acons a m ρ) Φ:=tl_bind (h.mono fun _ q=>tl_bind (q.mono fun _ q=>tl_ok q))
theorem w_iv (h:Tl (a ρ) fun x=>Tl (items x) Φ):Tl (iv a ρ) Φ:=tl_bind h
theorem w_itL {xs:List D} (h:Φ xs):Tl (items (.lst xs)) Φ:=tl_ok h
theorem w_itT {xs:List D} (h:Φ xs):Tl (items (.tup xs)) Φ:=tl_ok h
theorem w_r1 (h:Tl (m ρ) fun xs=>Tl (rng1 xs) Φ):Tl (r1 m ρ) Φ:=tl_bind h
theorem w_rng1 {j:Int} (h0:-1000000000 ≤ j ∧ j ≤ 1000000000) (h:Φ (rangeD 0 j.toNat)):Tl (rng1 [.int j]) Φ:=tl_of (rng1_ok h0.1 h0.2) h
theorem w_enum (h:Tl (m ρ) fun xs=>Tl (enum1 xs) Φ):Tl (iEnumerate m ρ) Φ:=tl_bind h
theorem w_enum1 {xs:List D} (h:Φ (numbered 0 xs)):Tl (enum1 [.lst xs]) Φ:=tl_ok h
theorem w_cg0 {g:MG} {t:MB} {e:ME} (h:Φ []):Tl (compGo g t e ρ []) Φ:=tl_ok h
theorem w_cg1 {g:MG} {t:MB} {e:ME} {x:D} {r:List D} (h:Tl (g x ρ) fun ρ1=>Tl (t ρ1) fun b=>Tl (if b = true then (e ρ1).bind fun y=>(compGo g t e ρ r).bind fun ys=>.ok (y :: ys) else compGo g t e ρ r) Φ):Tl (compGo g t e ρ (x :: r)) Φ :=
 tl_bind (h.mono fun _ q=>tl_bind q)
end
section
variable {Φ:Option Int → Prop} {ρ:Ev} {a:ME}
theorem w_pno (h:Φ none):Tl (pno ρ) Φ:=tl_ok h
theorem w_pso (h:Tl (a ρ) fun x=>Tl (optI x) Φ):Tl (pso a ρ) Φ:=tl_bind h
theorem w_optI {i:Int} (h:Φ (some i)):Tl (optI (.int i)) Φ:=tl_ok h
end
section
variable {Φ:Ev → Prop} {ρ:Ev} {i n:Nat} {x:D}
theorem w_gN (h:Φ (ρ.set i (.im x))):Tl (gN i x ρ) Φ:=tl_ok h
theorem w_gs0 (h:Φ ρ):Tl (gs0 [] ρ) Φ:=tl_ok h
theorem w_gs1 {g:MG} {r:MGs} {ds:List D} (h:Tl (g x ρ) fun ρ'=>Tl (r ds ρ') Φ):Tl (gs1 g r (x :: ds) ρ) Φ:=tl_bind h
theorem w_gUL {g:MGs} {xs:List D} (hl:xs.length = n) (h:Tl (g xs ρ) Φ):Tl (gU n g (.lst xs) ρ) Φ:=by
 show Tl (if xs.length = n then g xs ρ else .bad) Φ
 rw [if_pos hl];exact h
theorem w_gUT {g:MGs} {xs:List D} (hl:xs.length = n) (h:Tl (g xs ρ) Φ):Tl (gU n g (.tup xs) ρ) Φ:=by
 show Tl (if xs.length = n then g xs ρ else .bad) Φ
 rw [if_pos hl];exact h
end
section
variable {Φ:Fl → Prop} {ρ:Ev} {a b:ME} {k l:MS} {t:MB} {i j:Nat}
theorem w_sq (h:Tl (k ρ) fun f=>Tl (goOn l f) Φ):Tl (sq k l ρ) Φ:=tl_bind h
theorem w_gx (h:Tl (l ρ) Φ):Tl (goOn l (.nx ρ)) Φ:=h
theorem w_gr {x:D} (h:Φ (.rt x)):Tl (goOn l (.rt x)) Φ:=tl_ok h
theorem w_gc (h:Φ (.ct ρ)):Tl (goOn l (.ct ρ)) Φ:=tl_ok h
theorem w_st (h:Tl (a ρ) fun x=>Φ (.nx (ρ.set i (.im x)))):Tl (st i a ρ) Φ:=tl_bind (h.mono fun _ q=>tl_ok q)
theorem w_ret (h:Tl (a ρ) fun x=>Φ (.rt x)):Tl (ret a ρ) Φ:=tl_bind (h.mono fun _ q=>tl_ok q)
theorem w_nop (h:Φ (.nx ρ)):Tl (nop ρ) Φ:=tl_ok h
theorem w_cnt (h:Φ (.ct ρ)):Tl (cnt ρ) Φ:=tl_ok h
theorem w_drp (h:Tl (a ρ) fun _=>Φ (.nx ρ)):Tl (drp a ρ) Φ:=tl_bind (h.mono fun _ q=>tl_ok q)
theorem w_asg {g:MG} (h:Tl (a ρ) fun x=>Tl (g x ρ) fun ρ'=>Φ (.nx ρ')):Tl (asg g a ρ) Φ:=tl_bind (h.mono fun _ q=>tl_bind (q.mono fun _ q=>tl_ok q))
theorem w_ifs (h:Tl (t ρ) fun x=>Tl (if x = true then k ρ else l ρ) Φ):Tl (ifs t k l ρ) Φ:=tl_bind h
theorem w_for {it:MI} {g:MG} (h:Tl (it ρ) fun xs=>Tl (forGo g k xs ρ) Φ):Tl (for_ it g k ρ) Φ:=tl_bind h
theorem w_whl {fu:Ev → Nat} (h:Tl (whGo t k (fu ρ) ρ) Φ):Tl (whl fu t k ρ) Φ:=h
theorem w_stO (h:Tl (a ρ) fun x=>Tl (lstO x) fun xs=>Φ (.nx (ρ.set i (.ow xs)))):Tl (stO i a ρ) Φ:=tl_bind (h.mono fun _ q=>tl_bind (q.mono fun _ q=>tl_ok q))
theorem w_lstO {Ψ:List D → Prop} {xs:List D} (h:Ψ xs):Tl (lstO (.lst xs)) Ψ:=tl_ok h
theorem w_frz' (h:Tl (getO ρ[i]?) fun xs=>Tl (k (ρ.set i (.im (.lst xs)))) Φ):Tl (frz i k ρ) Φ:=tl_bind h
theorem w_app' (h:Tl (getO ρ[i]?) fun xs=>Tl (a ρ) fun d=>xs.length < 1000000 ∧ Φ (.nx (ρ.set i (.ow (xs ++ [d]))))):Tl (app i a ρ) Φ:=by
 refine tl_bind (h.mono fun xs q=>tl_bind (q.mono fun d q=>?_))
 rw [if_pos (show xs.length < LIM from q.1)]
 exact tl_ok q.2
theorem w_gO {Ψ:List D → Prop} {o:Option Cl} {xs:List D} (e:o = some (.ow xs)) (h:Ψ xs):Tl (getO o) Ψ:=tl_of (by rw [e];rfl) h
theorem w_eR {Ψ:D → Prop} {x:D} (h:Ψ x):Tl (endOf (.rt x)) Ψ:=tl_ok h
theorem w_eN {Ψ:D → Prop} (h:Ψ .non):Tl (endOf (.nx ρ)) Ψ:=tl_ok h
theorem w_tx (h:Tl (k ρ) Φ):Tl (turn k (.nx ρ)) Φ:=h
theorem w_tr {x:D} (h:Φ (.rt x)):Tl (turn k (.rt x)) Φ:=tl_ok h
theorem w_f0 {g:MG} (h:Φ (.nx ρ)):Tl (forGo g k [] ρ) Φ:=tl_ok h
theorem w_f1 {g:MG} {x:D} {r:List D} (h:Tl (g x ρ) fun ρ1=>Tl (k ρ1) fun f=>Tl (turn (forGo g k r) f) Φ):Tl (forGo g k (x :: r) ρ) Φ:=tl_bind (h.mono fun _ q=>tl_bind q)
theorem w_invP {g:MG} {xs:List D} (I:List D → Ev → Prop) (h0:I [] ρ) (h:∀ p x r,xs = p ++ x :: r → ∀ ρ,I p ρ → Tl (g x ρ) fun ρ1=>Tl (k ρ1) fun f=>∃ ρ2,f = .nx ρ2 ∧ I (p ++ [x]) ρ2) (hd:∀ ρ,I xs ρ → Φ (.nx ρ)):Tl (forGo g k xs ρ) Φ:=by
 obtain ⟨ρ',e,i⟩:=for_inv_pre (g:=g) (b:=k) I xs [] (fun p x r hx ρ i=>by
  obtain ⟨ρ1,e1,f,e2,ρ2,rfl,i2⟩:=h p x r hx ρ i
  exact ⟨ρ1,ρ2,e1,e2,i2⟩) ρ h0
 exact ⟨_,e,hd ρ' i⟩
theorem w_wh {n:Nat} (I:Ev → Prop) (μ:Ev → Nat) (h0:I ρ) (hm:μ ρ < n) (h:∀ ρ,I ρ → Tl (t ρ) fun b=>(b = true → Tl (k ρ) fun f=>∃ ρ2,f = .nx ρ2 ∧ I ρ2 ∧ μ ρ2 < μ ρ) ∧ (b = false → Φ (.nx ρ))):Tl (whGo t k n ρ) Φ:=by
 induction n generalizing ρ with
 | zero=>exact absurd hm (Nat.not_lt_zero _)
 | succ n ih =>
  rw [whGo_succ]
  obtain ⟨b,e,q⟩:=h ρ h0
  rw [e]
  cases b with
  | true =>
   obtain ⟨f,e2,ρ2,rfl,i2,l2⟩:=q.1 rfl
   show Tl ((k ρ).bind (turn (whGo t k n))) Φ
   rw [e2]
   exact ih i2 (by omega)
  | false=>exact tl_ok (q.2 rfl)
theorem ints_inj:∀ {ns ms:List Int},ns.map D.int = ms.map D.int → ns = ms
 | [],[],_=>rfl
 | [],_ :: _,h=>by cases h
 | _ :: _,[],h=>by cases h
 | n :: r,m :: s,h=>by
  have h':D.int n = D.int m ∧ r.map D.int = s.map D.int:=by simpa using h
  rw [ints_inj h'.2]
  cases h'.1
  rfl
end
theorem w_mapP {α:Type} {Φ:List D → Prop} {g:MG} {e:ME} {ρ:Ev} {enc:α → D} (f:α → D):∀ {l:List α},(∀ a ∈ l,Tl (g (enc a) ρ) fun ρ1=>Tl (e ρ1) fun y=>y = f a) → Φ (l.map f) → Tl (compGo g yes e ρ (l.map enc)) Φ:=by
 intro l h q
 have key:∀ l:List α,(∀ a ∈ l,Tl (g (enc a) ρ) fun ρ1=>Tl (e ρ1) fun y=>y = f a) → compGo g yes e ρ (l.map enc) = .ok (l.map f):=by
  intro l
  induction l with
  | nil=>exact fun _=>rfl
  | cons a r ih =>
   intro h
   obtain ⟨ρ1,e1,y,e2,rfl⟩:=h a List.mem_cons_self
   have z:=ih fun b hb=>h b (List.mem_cons_of_mem _ hb)
   rw [List.map_cons,compGo_cons,e1,ok_bind]
   unfold yes at z ⊢
   rw [ok_bind,if_pos rfl,e2,ok_bind,z]
   rfl
 exact tl_of (key l h) q
theorem w_all {Φ:List D → Prop} {g:MG} {e:ME} {ρ:Ev} {xs:List D} (P:D → D → Prop) (h:∀ x ∈ xs,Tl (g x ρ) fun ρ1=>Tl (e ρ1) fun y=>P x y) (q:∀ ys:List D,ys.length = xs.length → (∀ (i:Nat) x y,xs[i]? = some x → ys[i]? = some y → P x y) → Φ ys):Tl (compGo g yes e ρ xs) Φ:=by
 obtain ⟨ys,e1,l,hp⟩:=comp_all (g:=g) (e:=e) (ρ:=ρ) P xs fun x hx=>by
  obtain ⟨ρ1,e1,y,e2,hp⟩:=h x hx
  exact ⟨ρ1,y,e1,e2,hp⟩
 exact ⟨ys,e1,q ys l hp⟩
end Dl
namespace Dl
open PySem
section
variable {Φ:D → Prop}
theorem w_ixr {x y:D} (h:Tl (dIx x y) Φ):Tl (dIx x y) Φ:=h
theorem w_lenr {xs:List D} (h:Tl (bLen xs) Φ):Tl (bLen xs) Φ:=h
theorem w_isi {xs:List D} (h:Tl (bIsi xs) Φ):Tl (bIsi xs) Φ:=h
theorem at_nat {α:Type} {xs:List α} {i:Nat}:at_ xs (i:Int) = xs[i]?:=by
 unfold at_
 rw [if_pos (Int.natCast_nonneg i),Int.toNat_natCast]
theorem w_ixL {xs:List D} {i:Int} (h:0 ≤ i ∧ i < xs.length) (q:∀ x ∈ xs,Φ x):Tl (dIx (.lst xs) (.int i)) Φ:=by
 obtain ⟨n,rfl⟩:=Int.eq_ofNat_of_zero_le h.1
 have hn:n < xs.length:=by omega
 rw [dIx_lst,at_nat,List.getElem?_eq_getElem hn]
 exact tl_ok (q _ (List.getElem_mem hn))
theorem w_ixI {ns:List Int} {i:Int} (h:-(ns.length:Int) ≤ i ∧ i < ns.length) (q:∀ n ∈ ns,Φ (.int n)):Tl (dIx (.lst (ns.map .int)) (.int i)) Φ:=by
 rw [dIx_lst]
 unfold at_
 rw [List.length_map]
 by_cases h0:0 ≤ i
 ·have hn:i.toNat < ns.length:=by omega
  rw [if_pos h0,List.getElem?_map,List.getElem?_eq_getElem hn]
  exact tl_ok (q _ (List.getElem_mem hn))
 ·have hn:(i + ns.length).toNat < ns.length:=by omega
  rw [if_neg h0,if_pos h.1,List.getElem?_map,List.getElem?_eq_getElem hn]
  exact tl_ok (q _ (List.getElem_mem hn))
end
mutual
theorem eqD_refl:∀ (x:D) (k:Nat),plain k x = true → eqD x x = true
 | .non,_,_=>rfl
 | .bl b,_,_=>by show (b == b) = true;simp
 | .int b,_,_=>by show (b == b) = true;simp
 | .str b,_,_=>by show (b == b) = true;simp
 | .tup xs,0,h=>by simp [plain] at h
 | .lst xs,0,h=>by simp [plain] at h
 | .tup xs,k + 1,h=>eqDs_refl xs k (by simpa [plain] using h)
 | .lst xs,k + 1,h=>eqDs_refl xs k (by simpa [plain] using h)
 | .ty _,k,h=>by cases k <;> simp [plain] at h
 | .cls _,k,h=>by cases k <;> simp [plain] at h
 | .exc _,k,h=>by cases k <;> simp [plain] at h
theorem eqDs_refl:∀ (xs:List D) (k:Nat),plains k xs = true → eqDs xs xs = true
 | [],_,_=>rfl
 | x :: xs,k,h=>by
  have h':plain k x = true ∧ plains k xs = true:=by simpa [plains] using h
  show (eqD x x && eqDs xs xs) = true
  rw [eqD_refl x k h'.1,eqDs_refl xs k h'.2];rfl
end
theorem w_neR {Φ:D → Prop} {x:D} (h:plain 50 x = true) (q:Φ (.bl false)):Tl (dNe x x) Φ:=by
 unfold dNe
 rw [h,Bool.and_self,if_pos rfl,eqD_refl x 50 h]
 exact tl_ok q
def absAt (i:Nat) (ρ:Ev):Nat:=((ρ[i]?).map absC).getD 0
theorem absAt_fuel:∀ (ρ:Ev) (i:Nat),absAt i ρ < fuel ρ
 | [],i=>by simp [absAt,fuel]
 | c :: r,0=>by simp [absAt,fuel];omega
 | c :: r,i + 1=>by
  have:=absAt_fuel r i
  simp [absAt,fuel] at this ⊢
  omega
theorem mem_range {n:Nat} {x:D} (h:x ∈ rangeD 0 n):∃ k:Nat,k < n ∧ x = .int (k:Int):=by
 unfold rangeD at h
 obtain ⟨k,hk,rfl⟩:=List.mem_map.mp h
 exact ⟨k,List.mem_range.mp hk,by rw [Int.zero_add]⟩
end Dl
namespace Dl
open PySem
section
variable {α β:Type} {c:Str} {ρ:Ev} {i n:Nat} {k l:MS} {m:MA}
end
theorem w_all_T {Φ:D → Prop} {ys:List D} (h:∀ y ∈ ys,y = .bl true) (q:Φ (.bl true)):Tl (bAll [.lst ys]) Φ:=by
 have key:∀ ys:List D,(∀ y ∈ ys,y = .bl true) → ∃ bs,bools ys = .ok bs ∧ bs.all id = true:=by
  intro ys
  induction ys with
  | nil=>exact fun _=>⟨[],rfl,rfl⟩
  | cons y r ih =>
   intro h
   obtain ⟨bs,e1,e2⟩:=ih fun z hz=>h z (List.mem_cons_of_mem _ hz)
   obtain rfl:=h y List.mem_cons_self
   exact ⟨true :: bs,by show (bools r).bind _ = _;rw [e1];rfl,by simpa using e2⟩
 obtain ⟨bs,e1,e2⟩:=key ys h
 refine tl_of (x:=.bl true) ?_ q
 show (bools ys).bind (fun bs=>Res.ok (D.bl (bs.all id))) = _
 rw [e1]
 show Res.ok (D.bl (bs.all id)) = _
 rw [e2]
end Dl
namespace Dl
open PySem
section
variable {Φ:D → Prop} {ρ:Ev} {i:Nat}
theorem w_pk {m:ME} (h:Tl (getO ρ[i]?) fun xs=>Tl (m (ρ.set i (.im (.lst xs)))) fun d=>Tl (scalD d) Φ):Tl (pk i m ρ) Φ:=tl_bind (h.mono fun _ q=>tl_bind q)
theorem w_pkB {Ψ:Bool → Prop} {m:MB} (h:Tl (getO ρ[i]?) fun xs=>Tl (m (ρ.set i (.im (.lst xs)))) Ψ):Tl (pkB i m ρ) Ψ:=tl_bind h
theorem w_scI {n:Int} (h:Φ (.int n)):Tl (scalD (.int n)) Φ:=tl_ok h
theorem w_rev {xs:List D} (h:Φ (.lst xs.reverse)):Tl (dRev (.lst xs)) Φ:=tl_ok h
end
section
variable {c:Str} {ρ:Ev} {m:MA}
end
end Dl
namespace Dl
section
variable {Φ:D → Prop}
theorem w_p6 (h:Φ (.int 1000000)):Tl (dPow (.int 10) (.int 6)) Φ:=tl_of rfl h
theorem w_p8 (h:Φ (.int 100000000)):Tl (dPow (.int 10) (.int 8)) Φ:=tl_of rfl h
end
end Dl
namespace Dl
end Dl
namespace Dl
section
variable {Ψ:List D → Prop} {Φ:D → Prop} {ρ:Ev} {m:MA} {xs ys zs:List D} {a b:ME}
theorem w_lz3T (h:Φ (.lst (trips xs ys zs))):Tl (lz3 [.tup xs,.tup ys,.tup zs]) Φ:=tl_ok h
end
end Dl
namespace Dl
open PySem
section
variable {ρ:Ev} {i:Nat} {c:Str} {e a b':ME} {m:MA} {n:MB} {b:MS} {hits:List Str}
end
end Dl
namespace Dl
open PySem
end Dl
namespace Mt
def gcdL (g:Nat):List Int → Nat
 | []=>g
 | x :: r=>gcdL (Nat.gcd g x.natAbs) r
theorem gcd_turn (a b:Nat):Nat.gcd b (a % b) = Nat.gcd a b:=by
 rw [Nat.gcd_comm a b,Nat.gcd_rec b a,Nat.gcd_comm]
theorem gcdL_two (t b:Int):gcdL 0 [t,b] = Int.gcd t b:=by
 show Nat.gcd (Nat.gcd 0 t.natAbs) b.natAbs = _
 rw [Nat.gcd_zero_left];rfl
def frT (t b:Int):Int:=if b < 0 then t.fdiv (-(Int.gcd t b:Int)) else t.fdiv (Int.gcd t b:Int)
def frB (t b:Int):Int:=if b < 0 then b.fdiv (-(Int.gcd t b:Int)) else b.fdiv (Int.gcd t b:Int)
theorem gcd_pos' {t b:Int} (h:b ≠ 0):0 < Int.gcd t b:=Int.gcd_pos_of_ne_zero_right t h
theorem fdiv_mul {a d q:Int} (h:a = d * q) (hd:d ≠ 0):a.fdiv d = q:=by
 subst h;exact Int.mul_fdiv_cancel_left q hd
structure Fr (t b p q:Int):Prop where
 pos:1 ≤ q
 low:Int.gcd p q = 1
 same:p * b = t * q
 np:p.natAbs ≤ t.natAbs
 nq:q.natAbs ≤ b.natAbs
theorem fr_ok {t b:Int} (h:b ≠ 0):Fr t b (frT t b) (frB t b):=by
 have g0:=gcd_pos' (t:=t) h
 obtain ⟨p,hp⟩:=Int.gcd_dvd_left t b
 obtain ⟨q,hq⟩:=Int.gcd_dvd_right t b
 have gi:(0:Int) < (Int.gcd t b:Int):=Int.natCast_pos.mpr g0
 have hgcd:Int.gcd p q = 1:=by
  have e:Int.gcd ((Int.gcd t b:Int) * p) ((Int.gcd t b:Int) * q) = Int.gcd t b * Int.gcd p q:=by
   rw [Int.gcd_mul_left,Int.natAbs_natCast]
  rw [← hp,← hq] at e
  have e2:Int.gcd t b * Int.gcd p q = Int.gcd t b * 1:=by rw [Nat.mul_one];exact e.symm
  exact Nat.eq_of_mul_eq_mul_left g0 e2
 unfold frT frB
 generalize Int.gcd t b = g at *
 have npq:∀ {x y:Int},x = (g:Int) * y → y.natAbs ≤ x.natAbs:=fun {x y} e=>by
  rw [e,Int.natAbs_mul,Int.natAbs_natCast]
  exact Nat.le_mul_of_pos_left _ g0
 have same:p * b = t * q:=by
  rw [hq,hp,Int.mul_left_comm,Int.mul_assoc]
 have hgn:-(g:Int) ≠ 0:=by omega
 by_cases hb:b < 0
 ·rw [if_pos hb,if_pos hb,fdiv_mul (q:=-p) (by rw [Int.neg_mul_neg];exact hp) hgn,fdiv_mul (q:=-q) (by rw [Int.neg_mul_neg];exact hq) hgn]
  have qn:q < 0:=by
   rcases Int.lt_or_le q 0 with z | z
   ·exact z
   ·have z2:0 ≤ (g:Int) * q:=Int.mul_nonneg (Int.le_of_lt gi) z
    omega
  exact ⟨by omega,by rw [Int.gcd_neg,Int.neg_gcd];exact hgcd,by rw [Int.neg_mul,Int.mul_neg,same],by rw [Int.natAbs_neg];exact npq hp,by rw [Int.natAbs_neg];exact npq hq⟩
 ·rw [if_neg hb,if_neg hb,fdiv_mul (q:=p) hp (Int.ne_of_gt gi),fdiv_mul (q:=q) hq (Int.ne_of_gt gi)]
  have qn:1 ≤ q:=by
   rcases Int.lt_or_le 0 q with z | z
   ·exact z
   ·have z2:(g:Int) * q ≤ 0:=Int.mul_nonpos_of_nonneg_of_nonpos (Int.le_of_lt gi) z
    omega
  exact ⟨qn,hgcd,same,npq hp,npq hq⟩
theorem fr_one {p q r s:Int} (h1:1 ≤ q) (h2:Int.gcd p q = 1) (h3:1 ≤ s) (h4:Int.gcd r s = 1) (e:p * s = r * q):p = r ∧ q = s:=by
 have d1:q ∣ s:=by
  have z:q ∣ p * s:=⟨r,by rw [e,Int.mul_comm]⟩
  have z2:q.natAbs ∣ p.natAbs * s.natAbs:=by rw [← Int.natAbs_mul];exact Int.natAbs_dvd_natAbs.mpr z
  exact Int.natAbs_dvd_natAbs.mp (Nat.Coprime.dvd_of_dvd_mul_left (k:=q.natAbs) (m:=p.natAbs) (by show Nat.gcd _ _ = 1;rw [Nat.gcd_comm];exact h2) z2)
 have d2:s ∣ q:=by
  have z:s ∣ r * q:=⟨p,by rw [← e,Int.mul_comm]⟩
  have z2:s.natAbs ∣ r.natAbs * q.natAbs:=by rw [← Int.natAbs_mul];exact Int.natAbs_dvd_natAbs.mpr z
  exact Int.natAbs_dvd_natAbs.mp (Nat.Coprime.dvd_of_dvd_mul_left (k:=s.natAbs) (m:=r.natAbs) (by show Nat.gcd _ _ = 1;rw [Nat.gcd_comm];exact h4) z2)
 have e2:q = s:=Int.le_antisymm (Int.le_of_dvd (by omega) d1) (Int.le_of_dvd (by omega) d2)
 subst e2
 exact ⟨Int.eq_of_mul_eq_mul_right (by omega) e,rfl⟩
theorem fdiv_abs {a d:Int} (h:0 < d):(a.fdiv d).natAbs ≤ a.natAbs:=by
 rw [Int.fdiv_eq_ediv_of_nonneg a (Int.le_of_lt h)]
 have e:=Int.emod_add_mul_ediv a d
 have r0:=Int.emod_nonneg a (Int.ne_of_gt h)
 have r1:=Int.emod_lt_of_pos a h
 rcases Int.lt_or_le a 0 with z | z
 ·have q0:a / d < 0:=Int.ediv_neg_of_neg_of_pos z h
  have:a ≤ a / d:=by
   have e2:a = a % d + d * (a / d):=e.symm
   have:d * (a / d) ≤ 1 * (a / d):=Int.mul_le_mul_of_nonpos_right (by omega) (by omega)
   rcases Int.lt_or_le a (a / d + 1) with z | z
   ·omega
   ·exfalso
    have hh:(d - 1) * (a / d) ≤ (d - 1) * (-1):=Int.mul_le_mul_of_nonneg_left (by omega) (by omega)
    rw [Int.sub_mul] at hh
    omega
  omega
 ·have q0:0 ≤ a / d:=Int.ediv_nonneg z (Int.le_of_lt h)
  have:a / d ≤ a:=Int.ediv_le_self d z
  omega
end Mt
local macro_rules | `(tactic| walk_at "sm")=>`(tactic| first | assumption | exact Dl.Sm.of64 (by omega) (by omega) | exact Dl.Sm.mul (by walk_at "sm") (by walk_at "sm") | exact Dl.Sm.add (by walk_at "sm") (by walk_at "sm") | exact Dl.Sm.sub (by walk_at "sm") (by walk_at "sm") | exact Dl.Sm.neg (by walk_at "sm") | exact Dl.Sm.min (by walk_at "sm") (by walk_at "sm") | exact Dl.Sm.max (by walk_at "sm") (by walk_at "sm"))
local macro_rules | `(tactic| walk_at "mo")=>`(tactic| first | assumption | exact Dl.mulOk_l (Dl.Sm.of64 (by omega) (by omega)) | exact Dl.mulOk_r (Dl.Sm.of64 (by omega) (by omega)) | exact Dl.mulOk_s (by walk_at "sm") (by walk_at "sm") (by decide))
local macro_rules | `(tactic| walk_at "lg")=>`(tactic| first | assumption | decide | exact Dl.Sm.log (by walk_at "sm") (by decide))
local macro_rules | `(tactic| walk_at "w1")=>`(tactic| first
 | ((with_reducible refine Dl.w_v' ?_);refine Dl.w_gC rfl ?_) | with_reducible refine Dl.w_o2 ?_ | with_reducible refine Dl.w_c ?_ | with_reducible refine Dl.w_on ?_ | with_reducible refine Dl.w_acons ?_ | with_reducible refine Dl.w_anil ?_ | with_reducible refine Dl.w_sq ?_ | with_reducible refine Dl.w_gx ?_ | with_reducible refine Dl.w_st ?_ | with_reducible refine Dl.w_ifs ?_ | with_reducible refine Dl.w_trb ?_ | with_reducible refine Dl.w_tru ?_
 | with_reducible refine Dl.w_addI ?_ | with_reducible refine Dl.w_sub ?_ | ((with_reducible refine Dl.w_mul ?_ ?_);walk_at "mo") | ((with_reducible refine Dl.w_mod ?_ ?_);(first | decide | omega)) | ((with_reducible refine Dl.w_div ?_ ?_ ?_);(first | decide | omega);walk_at "lg")
 | with_reducible refine Dl.w_lt ?_ | with_reducible refine Dl.w_le ?_ | with_reducible refine Dl.w_gt ?_ | with_reducible refine Dl.w_ge ?_ | with_reducible refine Dl.w_eqI ?_ | with_reducible refine Dl.w_neI ?_ | with_reducible refine Dl.w_bAnd ?_ | with_reducible refine Dl.w_bOr ?_ | with_reducible refine Dl.w_bNot ?_
 | with_reducible refine Dl.w_ret ?_ | with_reducible refine Dl.w_gr ?_ | with_reducible refine Dl.w_eR ?_ | with_reducible refine Dl.w_nop ?_ | with_reducible refine Dl.w_mtp ?_ | with_reducible refine Dl.w_mls ?_ | with_reducible refine Dl.w_fn ?_ | with_reducible refine Dl.w_o1 ?_ | with_reducible refine Dl.w_eAnd ?_ | with_reducible refine Dl.w_eOr ?_ | with_reducible refine Dl.w_eNot ?_ | with_reducible refine Dl.w_ife ?_ | with_reducible refine Dl.w_chain ?_
 | with_reducible refine Dl.w_lenMT ?_ | with_reducible refine Dl.w_lenML ?_ | with_reducible refine Dl.w_lenL ?_ | with_reducible refine Dl.w_lenT ?_ | with_reducible refine Dl.w_abs ?_ | with_reducible refine Dl.w_max ?_ | with_reducible refine Dl.w_min ?_ | with_reducible refine Dl.w_tupL ?_ | with_reducible refine Dl.w_tupT ?_ | with_reducible refine Dl.w_lstL ?_ | with_reducible refine Dl.w_lstT ?_ | with_reducible refine Dl.w_neg ?_
 | with_reducible refine Dl.w_cut ?_ | with_reducible refine Dl.w_pno ?_ | with_reducible refine Dl.w_pso ?_ | with_reducible refine Dl.w_optI ?_ | with_reducible refine Dl.w_cutL ?_ | with_reducible refine Dl.w_cutT ?_ | with_reducible refine Dl.w_iv ?_ | with_reducible refine Dl.w_itL ?_ | with_reducible refine Dl.w_itT ?_ | with_reducible refine Dl.w_r1 ?_ | ((with_reducible refine Dl.w_rng1 ?_ ?_);omega) | with_reducible refine Dl.w_gN ?_ | with_reducible refine Dl.w_gs0 ?_ | with_reducible refine Dl.w_gs1 ?_
 | ((with_reducible refine Dl.w_gUT ?_ ?_);exact rfl) | ((with_reducible refine Dl.w_gUL ?_ ?_);exact rfl) | with_reducible refine Dl.w_drp ?_ | with_reducible refine Dl.w_asg ?_ | with_reducible refine Dl.w_par ?_ | with_reducible refine Dl.w_for ?_ | with_reducible refine Dl.w_whl ?_ | with_reducible refine Dl.w_zip ?_ | with_reducible refine Dl.w_zip2 ?_ | with_reducible refine Dl.w_zipTL ?_ | with_reducible refine Dl.w_zipLT ?_ | with_reducible refine Dl.w_zipTT ?_ | with_reducible refine Dl.w_iz3 ?_ | with_reducible refine Dl.w_zip3T ?_ | with_reducible refine Dl.w_lz3T ?_ | with_reducible refine Dl.w_mLst ?_ | with_reducible refine Dl.w_enum ?_ | with_reducible refine Dl.w_enum1 ?_ | with_reducible refine Dl.w_comp ?_
 | with_reducible refine Dl.w_retN ?_ | with_reducible refine Dl.w_eN ?_ | with_reducible refine Dl.w_brk ?_ | with_reducible refine Dl.w_cnt ?_ | with_reducible refine Dl.w_gb ?_ | with_reducible refine Dl.w_gc ?_ | with_reducible refine Dl.w_isN ?_ | with_reducible refine Dl.w_notN ?_ | with_reducible refine Dl.w_p6 ?_ | with_reducible refine Dl.w_p8 ?_ | with_reducible refine Dl.w_p20 ?_ | ((with_reducible refine Dl.w_pow ?_ ?_ ?_ ?_);decide;decide;decide) | ((with_reducible refine Dl.w_shl ?_ ?_ ?_ ?_);decide;decide;decide) | ((with_reducible refine Dl.w_shr ?_ ?_);omega) | with_reducible refine Dl.w_yes ?_
 | with_reducible refine Dl.w_tx ?_ | with_reducible refine Dl.w_tc ?_ | with_reducible refine Dl.w_tb ?_ | with_reducible refine Dl.w_tr ?_ | with_reducible refine Dl.w_max3 ?_ | with_reducible refine Dl.w_sum ?_ | with_reducible refine Dl.w_rev ?_ | ((with_reducible refine Dl.w_pkB ?_);refine Dl.w_gO rfl ?_) | ((with_reducible refine Dl.w_pk ?_);refine Dl.w_gO rfl ?_) | with_reducible refine Dl.w_scI ?_ | with_reducible refine Dl.w_scB ?_ | with_reducible refine Dl.w_endT ?_ | with_reducible refine Dl.w_stO ?_ | with_reducible refine Dl.w_lstO ?_ | ((with_reducible refine Dl.w_frz' ?_);refine Dl.w_gO rfl ?_) | ((with_reducible refine Dl.w_app' ?_);refine Dl.w_gO rfl ?_) | ((with_reducible refine Dl.w_ixr ?_);refine Dl.tl_of rfl ?_) | ((with_reducible refine Dl.w_isi ?_);refine Dl.tl_of rfl ?_) | ((with_reducible refine Dl.w_lenr ?_);refine Dl.tl_of rfl ?_) | with_reducible refine Dl.tl_ok ?_ | with_reducible refine Dl.tl_bind ?_)
local macro_rules | `(tactic| walk_at "wi")=>`(tactic| first | ((with_reducible refine Dl.w_iteT ?_ ?_);exact rfl) | ((with_reducible refine Dl.w_iteF ?_ ?_);exact rfl) | ((with_reducible refine Dl.w_dT ?_ ?_);first | assumption | omega) | ((with_reducible refine Dl.w_dF ?_ ?_);first | assumption | omega) | ((with_reducible refine Dl.w_nT ?_ ?_);first | assumption | omega) | ((with_reducible refine Dl.w_nF ?_ ?_);first | assumption | omega))
local macro_rules | `(tactic| walk_at "wr")=>`(tactic| (refine Dl.tl_of rfl ?_))
local macro_rules | `(tactic| walk_at "w")=>`(tactic| (repeat (first | walk_at "w1" | walk_at "wi"));try dsimp only [List.set_cons_zero,List.set_cons_succ,Dl.ev0,Dl.evF,Dl.noA,Dl.capD,Dl.imOf,List.getElem?_cons_zero,List.getElem?_cons_succ,Nat.reduceAdd,Nat.reduceSub])
namespace My
open PySem Dl
def objs:List Str:=["Plain", "Shaded", "Patterned", "Glass"]
def m__law_cell_at:List D → Res D:=fn 2
  (sq (ifs (trb (o2 dLt (v 1) (on bLen (acons (v 0) anil))))
  (ret (o2 dIx (v 0) (v 1)))
  nop)
  (ret (c (.int 0))))
def m_Glass__colour_at:List D → Res D:=fn 2
  (ret (o1 (dFld objs "colour") (v 0)))
def m_down:List D → Res D:=fn 1
  (ret (o2 dDiv (o2 dIx (v 0) (c (.int 0))) (o2 dIx (v 0) (c (.int 1)))))
def m_entry_at:List D → Res D:=fn 4
  (sq (st 3 (o2 dIx (v 0) (o2 dMod (on m_down (acons (v 2) anil)) (on bLen (acons (v 0) anil)))))
  (ret (o2 dIx (v 3) (o2 dMod (on m_down (acons (v 1) anil)) (on bLen (acons (v 3) anil))))))
def m_Patterned__colour_at:List D → Res D:=fn 2
  (ret (on m_entry_at (acons (o1 (dFld objs "pattern") (v 0)) (acons (o2 dIx (v 1) (c (.int 0))) (acons (o2 dIx (v 1) (c (.int 1))) anil)))))
def m_Plain__colour_at:List D → Res D:=fn 2
  (ret (o1 (dFld objs "colour") (v 0)))
def m_Shaded__colour_at:List D → Res D:=fn 2
  (ret (o2 dIx (v 1) (c (.int 0))))
def tab_colour_at:List (Str × (List D → Res D)):=[("Plain", m_Plain__colour_at),("Shaded", m_Shaded__colour_at),("Patterned", m_Patterned__colour_at),("Glass", m_Glass__colour_at)]
def m_Glass__is_glass:List D → Res D:=fn 1
  (ret (c (.bl true)))
def m_Thing__is_glass:List D → Res D:=fn 1
  (ret (c (.bl false)))
def tab_is_glass:List (Str × (List D → Res D)):=[("Plain", m_Thing__is_glass),("Shaded", m_Thing__is_glass),("Patterned", m_Thing__is_glass),("Glass", m_Glass__is_glass)]
def m__law_less:List D → Res D:=fn 2
  (ret (o2 dLt (o2 dMul (o2 dIx (v 0) (c (.int 0))) (o2 dIx (v 1) (c (.int 1)))) (o2 dMul (o2 dIx (v 1) (c (.int 0))) (o2 dIx (v 0) (c (.int 1))))))
def m_greatest_divisor:List D → Res D:=fn 5
  (sq (st 1 (c (.int 0)))
  (sq (for_ (iv (v 0)) (gN 2)
  (sq (st 3 (on bAbs (acons (v 2) anil)))
  (whl fuel (trb (o2 dNe (v 3) (c (.int 0))))
  (sq (st 4 (o2 dMod (v 1) (v 3)))
  (sq (st 1 (v 3))
  (st 3 (v 4)))))))
  (ret (v 1))))
def m_ratio:List D → Res D:=fn 3
  (sq (st 2 (on m_greatest_divisor (acons (mls (acons (v 0) (acons (v 1) anil))) anil)))
  (sq (ifs (trb (o2 dLt (v 1) (c (.int 0))))
  (st 2 (o1 dNeg (v 2)))
  nop)
  (ret (mtp (acons (o2 dDiv (v 0) (v 2)) (acons (o2 dDiv (v 1) (v 2)) anil))))))
def m_summed_products:List D → Res D:=fn 2
  (ret (o2 dAdd (o2 dAdd (o2 dMul (o2 dIx (v 0) (c (.int 0))) (o2 dIx (v 1) (c (.int 0)))) (o2 dMul (o2 dIx (v 0) (c (.int 1))) (o2 dIx (v 1) (c (.int 1))))) (o2 dMul (o2 dIx (v 0) (c (.int 2))) (o2 dIx (v 1) (c (.int 2))))))
def m_weighed_h:List D → Res D:=fn 2
  (ret (on m_summed_products (acons (comp (iv (v 0)) 1 [] (gN 0) yes (o2 dIx (v 0) (c (.int 3)))) (acons (v 1) anil))))
def m_depth_and_values:List D → Res D:=fn 5
  (sq (st 2 (on m_weighed_h (acons (v 0) (acons (v 1) anil))))
  (sq (st 3 (on m_ratio (acons (on m_summed_products (acons (comp (iv (v 0)) 1 [] (gN 0) yes (o2 dIx (v 0) (c (.int 2)))) (acons (v 1) anil))) (acons (v 2) anil))))
  (sq (st 4 (on lz3 (acons (o2 dIx (o2 dIx (v 0) (c (.int 0))) (c (.int 4))) (acons (o2 dIx (o2 dIx (v 0) (c (.int 1))) (c (.int 4))) (acons (o2 dIx (o2 dIx (v 0) (c (.int 2))) (c (.int 4))) anil)))))
  (ret (mtp (acons (v 3) (acons (on bTup (acons (comp (iv (v 4)) 1 [2,1] (gN 0) yes (on m_ratio (acons (on m_summed_products (acons (v 0) (acons (v 2) anil))) (acons (v 1) anil)))) anil)) anil)))))))
def m_check_before_eye:List D → Res D:=fn 2
  (for_ (iv (v 0)) (gN 1)
  (ifs (trb (o2 dLe (o2 dIx (v 1) (c (.int 2))) (c (.int 0))))
  (rse "BadTriangle" (acons (c (.str "only corners with w above 0 are thrown onto the floor")) anil))
  nop))
def m_edge_numbers:List D → Res D:=fn 2
  (ret (mtp (acons (o2 dSub (o2 dMul (o2 dIx (v 0) (c (.int 1))) (o2 dIx (v 1) (c (.int 2)))) (o2 dMul (o2 dIx (v 0) (c (.int 2))) (o2 dIx (v 1) (c (.int 1))))) (acons (o2 dSub (o2 dMul (o2 dIx (v 0) (c (.int 2))) (o2 dIx (v 1) (c (.int 0)))) (o2 dMul (o2 dIx (v 0) (c (.int 0))) (o2 dIx (v 1) (c (.int 2))))) (acons (o2 dSub (o2 dMul (o2 dIx (v 0) (c (.int 0))) (o2 dIx (v 1) (c (.int 1)))) (o2 dMul (o2 dIx (v 0) (c (.int 1))) (o2 dIx (v 1) (c (.int 0))))) anil)))))
def m_side:List D → Res D:=fn 5
  (sq (st 3 (on m_edge_numbers (acons (v 0) (acons (v 1) anil))))
  (sq (for_ (iv (mtp (acons (on m_summed_products (acons (v 3) (acons (v 2) anil))) (acons (o2 dIx (v 3) (c (.int 0))) (acons (o2 dIx (v 3) (c (.int 1))) anil))))) (gN 4)
  (ifs (trb (o2 dNe (v 4) (c (.int 0))))
  (ret (ife (trb (o2 dGt (v 4) (c (.int 0)))) (c (.int 1)) (o1 dNeg (c (.int 1)))))
  nop))
  (ret (c (.int 0)))))
def m_had:List D → Res D:=fn 3
  (sq (drp (on m_check_before_eye (acons (v 0) anil)))
  (sq (st 2 (on m_side (acons (o2 dIx (v 0) (c (.int 0))) (acons (o2 dIx (v 0) (c (.int 1))) (acons (v 1) anil)))))
  (sq (ifs (bOr (trb (o2 dNe (on m_side (acons (o2 dIx (v 0) (c (.int 1))) (acons (o2 dIx (v 0) (c (.int 2))) (acons (v 1) anil)))) (v 2))) (trb (o2 dNe (on m_side (acons (o2 dIx (v 0) (c (.int 2))) (acons (o2 dIx (v 0) (c (.int 0))) (acons (v 1) anil)))) (v 2))))
  (ret (c (.int 0)))
  nop)
  (ret (v 2)))))
def m_edge_sum:List D → Res D:=fn 3
  (ret (on m_summed_products (acons (on m_edge_numbers (acons (v 0) (acons (v 1) anil))) (acons (v 2) anil))))
def m_weights:List D → Res D:=fn 2
  (ret (mtp (acons (on m_edge_sum (acons (o2 dIx (v 0) (c (.int 1))) (acons (o2 dIx (v 0) (c (.int 2))) (acons (v 1) anil)))) (acons (on m_edge_sum (acons (o2 dIx (v 0) (c (.int 2))) (acons (o2 dIx (v 0) (c (.int 0))) (acons (v 1) anil)))) (acons (on m_edge_sum (acons (o2 dIx (v 0) (c (.int 0))) (acons (o2 dIx (v 0) (c (.int 1))) (acons (v 1) anil)))) anil)))))
def m_seen_at:List D → Res D:=fn 2
  (sq (ifs (trb (o2 dEq (on m_had (acons (v 0) (acons (v 1) anil))) (c (.int 0))))
  (ret (c .non))
  nop)
  (ret (on m_depth_and_values (acons (v 0) (acons (on m_weights (acons (v 0) (acons (v 1) anil))) anil)))))
def m__law_sights:List D → Res D:=fn 7
  (sq (stO 2 (mls anil))
  (sq (for_ (iEnumerate (acons (v 0) anil)) (gU 2 (gs1 (gN 3) (gs1 (gN 4) gs0)))
  (sq (st 5 (on m_seen_at (acons (o1 (dFld objs "triangle") (v 4)) (acons (v 1) anil))))
  (ifs (trb (o1 dNotN (v 5)))
  (sq (st 6 (c (.int 0)))
  (sq (whl fuel (pkB 2 (bAnd (trb (o2 dLt (v 6) (on bLen (acons (v 2) anil)))) (bNot (trb (on m__law_less (acons (o2 dIx (v 5) (c (.int 0))) (acons (o2 dIx (o2 dIx (v 2) (v 6)) (c (.int 0))) anil)))))))
  (st 6 (o2 dAdd (v 6) (c (.int 1)))))
  (insO 2 (v 6) (mtp (acons (o2 dIx (v 5) (c (.int 0))) (acons (v 3) (acons (v 4) (acons (o2 dIx (v 5) (c (.int 1))) anil))))))))
  nop)))
  (frz 2 (ret (v 2)))))
def m__law_colour:List D → Res D:=fn 14
  (sq (st 3 (on m__law_sights (acons (v 0) (acons (v 1) anil))))
  (sq (st 4 (cut (comp (iv (v 3)) 1 [] (gN 0) (bNot (trb (meth tab_is_glass "is_glass" (o2 dIx (v 0) (c (.int 2))) anil))) (v 0)) pno (pso (c (.int 1)))))
  (sq (st 5 (v 2))
  (sq (st 6 (comp (iv (v 3)) 1 [] (gN 0) (trb (meth tab_is_glass "is_glass" (o2 dIx (v 0) (c (.int 2))) anil)) (v 0)))
  (sq (ifs (trb (o2 dNeNil (v 4) (mls anil)))
  (sq (st 5 (meth tab_colour_at "colour_at" (o2 dIx (o2 dIx (v 4) (c (.int 0))) (c (.int 2))) (acons (o2 dIx (o2 dIx (v 4) (c (.int 0))) (c (.int 3))) anil)))
  (st 6 (comp (iv (v 6)) 1 [4] (gN 0) (trb (on m__law_less (acons (o2 dIx (v 0) (c (.int 0))) (acons (o2 dIx (o2 dIx (v 1) (c (.int 0))) (c (.int 0))) anil)))) (v 0))))
  nop)
  (sq (for_ (iv (o1 dRev (v 6))) (gU 4 (gs1 (gN 7) (gs1 (gN 8) (gs1 (gN 9) (gs1 (gN 10) gs0)))))
  (sq (st 11 (o1 (dFld objs "part") (v 9)))
  (sq (st 12 (o1 (dFld objs "colour") (v 9)))
  (sq (st 13 (o2 dAdd (o2 dMul (o2 dMul (o2 dIx (v 11) (c (.int 0))) (o2 dIx (v 12) (c (.int 0)))) (o2 dIx (v 5) (c (.int 1)))) (o2 dMul (o2 dMul (o2 dSub (o2 dIx (v 11) (c (.int 1))) (o2 dIx (v 11) (c (.int 0)))) (o2 dIx (v 5) (c (.int 0)))) (o2 dIx (v 12) (c (.int 1))))))
  (st 5 (on m_ratio (acons (v 13) (acons (o2 dMul (o2 dMul (o2 dIx (v 11) (c (.int 1))) (o2 dIx (v 12) (c (.int 1)))) (o2 dIx (v 5) (c (.int 1)))) anil))))))))
  (ret (v 5))))))))
def m__law_mixed:List D → Res D:=fn 3
  (sq (ifs (bAnd (trb (o2 dGe (v 0) (o2 dShl (c (.int 1)) (c (.int 90))))) (bAnd (trb (o2 dEq (o2 dMod (v 0) (c (.int 2))) (c (.int 1)))) (trb (o2 dGt (o2 dShr (v 0) (o2 dAdd (c (.int 1)) (o2 dMul (c (.int 31)) (v 1)))) (c (.int 0))))))
  (ret (o2 dMod (o2 dShr (v 0) (o2 dAdd (c (.int 1)) (o2 dMul (c (.int 31)) (v 1)))) (c (.int 2147483648))))
  nop)
  (sq (st 2 (o2 dMod (o2 dMul (o2 dAdd (o2 dAdd (v 0) (o2 dMul (c (.int 7919)) (v 1))) (c (.int 1))) (c (.int 48271))) (c (.int 2147483647))))
  (sq (st 2 (o2 dMod (o2 dMul (v 2) (o2 dAdd (o2 dDiv (v 2) (c (.int 1009))) (c (.int 69621)))) (c (.int 2147483647))))
  (ret (o2 dMod (o2 dMul (v 2) (o2 dAdd (o2 dAdd (o2 dDiv (v 2) (c (.int 2003))) (c (.int 39373))) (v 1))) (c (.int 2147483629)))))))
def m__law_draws:List D → Res D:=fn 2
  (ret (comp (r1 (acons (v 1) anil)) 1 [0] (gN 0) yes (on m__law_mixed (acons (v 1) (acons (v 0) anil)))))
def m_Glass__word:List D → Res D:=fn 1
  (ret (c (.str "glass")))
def m_Patterned__word:List D → Res D:=fn 1
  (ret (c (.str "patterned")))
def m_Plain__word:List D → Res D:=fn 1
  (ret (c (.str "plain")))
def m_Shaded__word:List D → Res D:=fn 1
  (ret (c (.str "shaded")))
def tab_word:List (Str × (List D → Res D)):=[("Plain", m_Plain__word),("Shaded", m_Shaded__word),("Patterned", m_Patterned__word),("Glass", m_Glass__word)]
def m_is_whole:List D → Res D:=fn 1
  (ret (eAnd (on bIsi (acons (v 0) (acons (c (.ty "int")) anil))) (eNot (on bIsi (acons (v 0) (acons (c (.ty "bool")) anil))))))
def m_are_values:List D → Res D:=fn 1
  (sq (ifs (bOr (bNot (trb (on bIsi (acons (v 0) (acons (c (.ty "tuple")) anil))))) (trb (o2 dGt (on bLen (acons (v 0) anil)) (c (.int 3)))))
  (ret (c (.bl false)))
  nop)
  (ret (on bAll (acons (comp (iv (v 0)) 1 [] (gN 0) yes (on m_is_whole (acons (v 0) anil))) anil))))
def m_is_corner:List D → Res D:=fn 1
  (sq (ifs (bOr (bNot (trb (on bIsi (acons (v 0) (acons (c (.ty "tuple")) anil))))) (trb (o2 dNe (on bLen (acons (v 0) anil)) (c (.int 5)))))
  (ret (c (.bl false)))
  nop)
  (sq (ifs (bNot (trb (on bAll (acons (comp (iv (cut (v 0) pno (pso (c (.int 4))))) 1 [] (gN 0) yes (on m_is_whole (acons (v 0) anil))) anil))))
  (ret (c (.bl false)))
  nop)
  (ret (eAnd (o2 dGe (o2 dIx (v 0) (c (.int 3))) (c (.int 1))) (on m_are_values (acons (o2 dIx (v 0) (c (.int 4))) anil))))))
def m_check_triangle:List D → Res D:=fn 2
  (sq (ifs (bOr (bNot (trb (on bIsi (acons (v 0) (acons (c (.ty "tuple")) anil))))) (trb (o2 dNe (on bLen (acons (v 0) anil)) (c (.int 3)))))
  (rse "BadTriangle" (acons (c (.str "a triangle is a tuple of three corners")) anil))
  nop)
  (for_ (iv (v 0)) (gN 1)
  (sq (ifs (bNot (trb (on m_is_corner (acons (v 1) anil))))
  (rse "BadTriangle" (acons (c (.str "a corner is a tuple (x, y, w, h, values) of whole numbers, h from 1 on")) anil))
  nop)
  (ifs (trb (o2 dNe (on bLen (acons (o2 dIx (v 1) (c (.int 4))) anil)) (on bLen (acons (o2 dIx (o2 dIx (v 0) (c (.int 0))) (c (.int 4))) anil))))
  (rse "BadTriangle" (acons (c (.str "the corners of a triangle have as many values each")) anil))
  nop))))
def i_Thing:List D → Fs → Res Fs:=fnI 2
  (iDrp (on m_check_triangle (acons (v 1) anil))
  (iDrp (on m_check_before_eye (acons (v 1) anil))
  (iSet "triangle" (v 1)
  iEnd)))
def m_is_fraction:List D → Res D:=fn 1
  (sq (ifs (bOr (bNot (trb (on bIsi (acons (v 0) (acons (c (.ty "tuple")) anil))))) (trb (o2 dNe (on bLen (acons (v 0) anil)) (c (.int 2)))))
  (ret (c (.bl false)))
  nop)
  (sq (ifs (bOr (bNot (trb (on m_is_whole (acons (o2 dIx (v 0) (c (.int 0))) anil)))) (bNot (trb (on m_is_whole (acons (o2 dIx (v 0) (c (.int 1))) anil)))))
  (ret (c (.bl false)))
  nop)
  (ret (eAnd (o2 dGe (o2 dIx (v 0) (c (.int 1))) (c (.int 1))) (o2 dEq (on m_greatest_divisor (acons (v 0) anil)) (c (.int 1)))))))
def m_check_colour:List D → Res D:=fn 1
  (ifs (bNot (trb (on m_is_fraction (acons (v 0) anil))))
  (rse "BadThing" (acons (c (.str "a colour is a fraction in lowest terms")) anil))
  nop)
def m_check_part:List D → Res D:=fn 1
  (ifs (bOr (bNot (trb (on m_is_fraction (acons (v 0) anil)))) (bOr (trb (o2 dLt (o2 dIx (v 0) (c (.int 0))) (c (.int 0)))) (trb (o2 dGt (o2 dIx (v 0) (c (.int 0))) (o2 dIx (v 0) (c (.int 1)))))))
  (rse "BadThing" (acons (c (.str "a part is a fraction in lowest terms, from 0 to 1")) anil))
  nop)
def i_Glass:List D → Fs → Res Fs:=fnI 4
  (iSup i_Thing (acons (v 1) anil)
  (iDrp (on m_check_colour (acons (v 2) anil))
  (iDrp (on m_check_part (acons (v 3) anil))
  (iSet "colour" (v 2)
  (iSet "part" (v 3)
  iEnd)))))
def i_Plain:List D → Fs → Res Fs:=fnI 3
  (iSup i_Thing (acons (v 1) anil)
  (iDrp (on m_check_colour (acons (v 2) anil))
  (iSet "colour" (v 2)
  iEnd)))
def m_check_values:List D → Res D:=fn 2
  (ifs (trb (o2 dLt (on bLen (acons (o2 dIx (o2 dIx (v 0) (c (.int 0))) (c (.int 4))) anil)) (v 1)))
  badS
  nop)
def i_Shaded:List D → Fs → Res Fs:=fnI 2
  (iSup i_Thing (acons (v 1) anil)
  (iDrp (on m_check_values (acons (v 1) (acons (c (.int 1)) anil)))
  iEnd))
def m__law_flat:List D → Res D:=fn 3
  (sq (st 2 (on bTup (acons (comp (iv (v 1)) 5 [] (gU 5 (gs1 (gN 0) (gs1 (gN 1) (gs1 (gN 2) (gs1 (gN 3) (gs1 (gN 4) gs0)))))) yes (mtp (acons (v 0) (acons (v 1) (acons (v 2) (acons (v 2) (acons (v 4) anil))))))) anil)))
  (sq (ifs (trb (o2 dEq (meth tab_word "word" (v 0) anil) (c (.str "glass"))))
  (ret (make "Glass" i_Glass (acons (v 2) (acons (o1 (dFld objs "colour") (v 0)) (acons (o1 (dFld objs "part") (v 0)) anil)))))
  nop)
  (sq (ifs (trb (o2 dEq (meth tab_word "word" (v 0) anil) (c (.str "plain"))))
  (ret (make "Plain" i_Plain (acons (v 2) (acons (o1 (dFld objs "colour") (v 0)) anil))))
  nop)
  (ret (make "Shaded" i_Shaded (acons (v 2) anil))))))
def m_check_pattern:List D → Res D:=fn 2
  (sq (ifs (bOr (bNot (trb (on bIsi (acons (v 0) (acons (c (.ty "list")) anil))))) (trb (o2 dNin (on bLen (acons (v 0) anil)) (c (.tup [.int 1,.int 2,.int 4,.int 8,.int 16])))))
  (rse "BadPattern" (acons (c (.str "a pattern is a list of 1, 2, 4, 8 or 16 rows")) anil))
  nop)
  (for_ (iv (v 0)) (gN 1)
  (sq (ifs (bOr (bNot (trb (on bIsi (acons (v 1) (acons (c (.ty "list")) anil))))) (trb (o2 dNin (on bLen (acons (v 1) anil)) (c (.tup [.int 1,.int 2,.int 4,.int 8,.int 16])))))
  (rse "BadPattern" (acons (c (.str "a row of a pattern is a list of 1, 2, 4, 8 or 16 fractions")) anil))
  nop)
  (sq (ifs (trb (o2 dNe (on bLen (acons (v 1) anil)) (on bLen (acons (o2 dIx (v 0) (c (.int 0))) anil))))
  (rse "BadPattern" (acons (c (.str "the rows of a pattern have as many fractions each")) anil))
  nop)
  (ifs (bNot (trb (on bAll (acons (comp (iv (v 1)) 1 [] (gN 0) yes (on m_is_fraction (acons (v 0) anil))) anil))))
  (rse "BadPattern" (acons (c (.str "what stands in a pattern is a fraction in lowest terms")) anil))
  nop)))))
def m_copied:List D → Res D:=fn 1
  (ret (comp (iv (v 0)) 1 [] (gN 0) yes (on bLst (acons (v 0) anil))))
def i_Patterned:List D → Fs → Res Fs:=fnI 3
  (iSup i_Thing (acons (v 1) anil)
  (iDrp (on m_check_values (acons (v 1) (acons (c (.int 2)) anil)))
  (iDrp (on m_check_pattern (acons (v 2) anil))
  (iSet "pattern" (on m_copied (acons (v 2) anil))
  iEnd))))
def m__law_pattern:List D → Res D:=fn 9
  (sq (st 2 (o2 dIx (mls (acons (c (.int 1)) (acons (c (.int 2)) (acons (c (.int 4)) (acons (c (.int 16)) anil))))) (o2 dMod (v 0) (c (.int 4)))))
  (sq (st 3 (o2 dIx (mls (acons (c (.int 1)) (acons (c (.int 2)) (acons (c (.int 8)) (acons (c (.int 4)) anil))))) (o2 dMod (o2 dDiv (v 0) (c (.int 4))) (c (.int 4)))))
  (sq (stO 4 (mls anil))
  (sq (for_ (r1 (acons (v 2) anil)) (gN 5)
  (sq (stO 6 (mls anil))
  (sq (for_ (r1 (acons (v 3) anil)) (gN 7)
  (sq (st 8 (on m__law_mixed (acons (v 1) (acons (o2 dAdd (o2 dMul (c (.int 20)) (v 5)) (v 7)) anil))))
  (app 6 (o2 dIx (mls (acons (mtp (acons (o2 dMod (v 8) (c (.int 7))) (acons (c (.int 1)) anil))) (acons (on m_ratio (acons (o2 dSub (v 8) (o2 dPow (c (.int 10)) (c (.int 9)))) (acons (o2 dAdd (c (.int 1)) (o2 dMod (o2 dDiv (v 8) (c (.int 9))) (c (.int 99)))) anil))) anil))) (o2 dMod (o2 dDiv (v 0) (c (.int 16))) (c (.int 2)))))))
  (frz 6 (app 4 (v 6))))))
  (frz 4 (ret (v 4)))))))
def m__law_thing:List D → Res D:=fn 10
  (sq (asg (gU 4 (gs1 (gN 2) (gs1 (gN 3) (gs1 (gN 4) (gs1 (gN 5) gs0))))) (v 0))
  (sq (st 6 (mls (acons (mtp (acons (o2 dSub (o2 dMod (o2 dDiv (v 2) (c (.int 8))) (c (.int 9))) (c (.int 2))) (acons (c (.int 1)) anil))) (acons (on m_ratio (acons (o2 dAdd (o2 dMul (c (.int 2)) (o2 dMod (o2 dDiv (v 2) (c (.int 8))) (c (.int 9)))) (c (.int 1))) (acons (c (.int 2)) anil))) (acons (on m_ratio (acons (o2 dSub (v 3) (o2 dPow (c (.int 10)) (c (.int 9)))) (acons (o2 dAdd (c (.int 1)) (v 4)) anil))) anil)))))
  (sq (st 6 (o2 dIx (v 6) (o2 dMod (o2 dDiv (v 2) (c (.int 128))) (c (.int 3)))))
  (sq (st 7 (o2 dMod (v 2) (c (.int 5))))
  (sq (ifs (trb (o2 dEq (v 7) (c (.int 0))))
  (sq (st 8 (o2 dAdd (c (.int 1)) (o2 dMod (o2 dDiv (v 2) (c (.int 8))) (c (.int 3)))))
  (ret (make "Shaded" i_Shaded (acons (on bTup (acons (comp (iv (v 1)) 1 [8] (gN 0) yes (o2 dAdd (cut (v 0) pno (pso (c (.int 4)))) (mtp (acons (cut (o2 dIx (v 0) (c (.int 4))) pno (pso (v 1))) anil)))) anil)) anil))))
  nop)
  (sq (ifs (trb (o2 dEq (v 7) (c (.int 1))))
  (ret (make "Patterned" i_Patterned (acons (v 1) (acons (on m__law_pattern (acons (o2 dDiv (v 2) (c (.int 512))) (acons (v 5) anil))) anil))))
  nop)
  (sq (ifs (trb (o2 dEq (v 7) (c (.int 2))))
  (ret (make "Plain" i_Plain (acons (v 1) (acons (v 6) anil))))
  nop)
  (sq (st 9 (o2 dIx (mls (acons (mtp (acons (c (.int 0)) (acons (c (.int 1)) anil))) (acons (mtp (acons (c (.int 1)) (acons (c (.int 2)) anil))) (acons (mtp (acons (c (.int 1)) (acons (c (.int 3)) anil))) (acons (mtp (acons (c (.int 2)) (acons (c (.int 3)) anil))) (acons (mtp (acons (c (.int 1)) (acons (c (.int 1)) anil))) (acons (on m_ratio (acons (o2 dMod (v 5) (o2 dAdd (c (.int 1)) (v 3))) (acons (o2 dAdd (c (.int 1)) (v 3)) anil))) anil))))))) (o2 dMod (o2 dDiv (v 2) (c (.int 512))) (c (.int 6)))))
  (ret (make "Glass" i_Glass (acons (v 1) (acons (v 6) (acons (v 9) anil)))))))))))))
def m__law_corner:List D → Res D:=fn 11
  (sq (asg (gU 2 (gs1 (gN 2) (gs1 (gN 3) gs0))) (cut (v 0) pno (pso (c (.int 2)))))
  (sq (st 4 (o2 dIx (mls (acons (c (.int 2)) (acons (c (.int 8)) (acons (c (.int 1)) (acons (c (.int 2)) anil))))) (o2 dMod (o2 dDiv (v 2) (c (.int 4))) (c (.int 4)))))
  (sq (st 5 (o2 dAdd (c (.int 1)) (o2 dMod (o2 dDiv (v 2) (c (.int 16))) (c (.int 3)))))
  (sq (st 6 (o2 dMul (v 5) (o2 dSub (o2 dMod (o2 dDiv (v 2) (c (.int 64))) (o2 dAdd (o2 dMul (v 4) (c (.int 8))) (c (.int 1)))) (v 4))))
  (sq (st 7 (o2 dMul (v 5) (o2 dSub (o2 dMod (v 3) (o2 dAdd (o2 dMul (v 4) (c (.int 8))) (c (.int 1)))) (v 4))))
  (sq (st 8 (o2 dMul (v 4) (v 5)))
  (sq (st 9 (o2 dIx (mls (acons (c (.int 1)) (acons (v 8) (acons (o2 dAdd (c (.int 1)) (o2 dMod (o2 dDiv (v 3) (c (.int 512))) (c (.int 9)))) (acons (v 8) anil))))) (o2 dMod (o2 dDiv (v 3) (c (.int 32))) (c (.int 4)))))
  (sq (st 10 (on bTup (acons (comp (r1 (acons (v 1) anil)) 1 [0] (gN 0) yes (o2 dSub (o2 dMod (o2 dIx (v 1) (o2 dAdd (c (.int 6)) (v 0))) (c (.int 41))) (c (.int 10)))) anil)))
  (sq (ifs (trb (o2 dEq (o2 dMod (v 2) (c (.int 4))) (c (.int 3))))
  (sq (st 6 (o2 dSub (o2 dMod (o2 dIx (v 0) (c (.int 2))) (c (.int 2000001))) (o2 dPow (c (.int 10)) (c (.int 6)))))
  (sq (st 7 (o2 dSub (o2 dMod (o2 dIx (v 0) (c (.int 3))) (c (.int 2000001))) (o2 dPow (c (.int 10)) (c (.int 6)))))
  (sq (st 8 (o2 dAdd (c (.int 1)) (o2 dMod (o2 dIx (v 0) (c (.int 4))) (o2 dPow (c (.int 10)) (c (.int 6))))))
  (sq (st 9 (o2 dAdd (c (.int 1)) (o2 dMod (o2 dIx (v 0) (c (.int 5))) (o2 dPow (c (.int 10)) (c (.int 6))))))
  (st 10 (on bTup (acons (comp (r1 (acons (v 1) anil)) 1 [0] (gN 0) yes (o2 dSub (o2 dMod (o2 dIx (v 1) (o2 dAdd (c (.int 6)) (v 0))) (c (.int 2000001))) (o2 dPow (c (.int 10)) (c (.int 6))))) anil)))))))
  nop)
  (sq (ifs (trb (o2 dEq (o2 dMod (v 2) (c (.int 4))) (c (.int 2))))
  (sq (st 8 (o2 dAdd (c (.int 1)) (o2 dMod (o2 dDiv (v 3) (c (.int 4096))) (c (.int 300)))))
  (st 6 (o2 dSub (o2 dMod (o2 dIx (v 0) (c (.int 2))) (c (.int 2001))) (c (.int 1000)))))
  nop)
  (ret (mtp (acons (v 6) (acons (v 7) (acons (v 8) (acons (v 9) (acons (v 10) anil)))))))))))))))))
def m__law_triangles:List D → Res D:=fn 12
  (sq (st 4 (o2 dAdd (c (.int 6)) (v 3)))
  (sq (st 5 (comp (r1 (acons (c (.int 6)) anil)) 1 [4,0,1] (gN 0) yes (on m__law_draws (acons (on m__law_cell_at (acons (v 2) (acons (o2 dAdd (v 3) (v 0)) anil))) (acons (o2 dMul (c (.int 3)) (v 1)) anil)))))
  (sq (st 6 (comp (iv (v 5)) 1 [4,3] (gN 0) yes (on m__law_corner (acons (cut (v 0) pno (pso (v 1))) (acons (v 2) anil)))))
  (sq (st 7 (on m__law_draws (acons (on m__law_cell_at (acons (v 0) (acons (o2 dAdd (v 1) (c (.int 6))) anil))) (acons (o2 dAdd (v 2) (c (.int 1))) anil))))
  (sq (stO 8 (mls anil))
  (sq (for_ (r1 (acons (o2 dMod (o2 dIx (v 7) (c (.int 0))) (o2 dAdd (v 2) (c (.int 1)))) anil)) (gN 9)
  (sq (st 10 (o2 dIx (v 7) (o2 dAdd (c (.int 1)) (v 9))))
  (sq (st 11 (mls (acons (o2 dIx (v 6) (o2 dMod (v 10) (c (.int 6)))) (acons (o2 dIx (v 6) (o2 dMod (o2 dDiv (v 10) (c (.int 6))) (c (.int 6)))) (acons (o2 dIx (v 6) (o2 dMod (o2 dDiv (v 10) (c (.int 36))) (c (.int 6)))) anil)))))
  (sq (ifs (trb (o2 dEq (o2 dMod (o2 dDiv (v 10) (c (.int 216))) (c (.int 4))) (c (.int 1))))
  (st 11 (comp (r1 (acons (c (.int 3)) anil)) 1 [4,5,3,9] (gN 0) yes (on m__law_corner (acons (cut (o2 dIx (v 2) (v 4)) (pso (o2 dMul (v 1) (v 0))) (pso (o2 dAdd (o2 dMul (v 1) (v 0)) (v 1)))) (acons (v 3) anil)))))
  nop)
  (app 8 (mtp (acons (o2 dIx (v 11) (c (.int 0))) (acons (o2 dIx (v 11) (c (.int 1))) (acons (o2 dIx (v 11) (c (.int 2))) anil)))))))))
  (frz 8 (ret (v 8)))))))))
def m__law_things:List D → Res D:=fn 8
  (sq (st 3 (on m__law_draws (acons (on m__law_cell_at (acons (v 0) (acons (o2 dAdd (v 1) (c (.int 7))) anil))) (acons (o2 dMul (c (.int 4)) (v 2)) anil))))
  (sq (stO 4 (mls anil))
  (sq (st 5 (o2 dAdd (c (.int 2)) (o2 dMod (o2 dDiv (on m__law_cell_at (acons (v 0) (acons (o2 dAdd (v 1) (c (.int 7))) anil))) (c (.int 2))) (c (.int 2)))))
  (sq (for_ (iEnumerate (acons (on m__law_triangles (acons (v 0) (acons (v 1) (acons (v 2) (acons (v 5) anil))))) anil)) (gU 2 (gs1 (gN 6) (gs1 (gN 7) gs0)))
  (app 4 (on m__law_thing (acons (cut (v 3) (pso (o2 dMul (c (.int 4)) (v 6))) (pso (o2 dAdd (o2 dMul (c (.int 4)) (v 6)) (c (.int 4))))) (acons (v 7) anil)))))
  (frz 4 (ret (v 4)))))))
def m_minus:List D → Res D:=fn 2
  (ret (on m_ratio (acons (o2 dSub (o2 dMul (o2 dIx (v 0) (c (.int 0))) (o2 dIx (v 1) (c (.int 1)))) (o2 dMul (o2 dIx (v 1) (c (.int 0))) (o2 dIx (v 0) (c (.int 1))))) (acons (o2 dMul (o2 dIx (v 0) (c (.int 1))) (o2 dIx (v 1) (c (.int 1)))) anil))))
def m_plus:List D → Res D:=fn 2
  (ret (on m_ratio (acons (o2 dAdd (o2 dMul (o2 dIx (v 0) (c (.int 0))) (o2 dIx (v 1) (c (.int 1)))) (o2 dMul (o2 dIx (v 1) (c (.int 0))) (o2 dIx (v 0) (c (.int 1))))) (acons (o2 dMul (o2 dIx (v 0) (c (.int 1))) (o2 dIx (v 1) (c (.int 1)))) anil))))
def m_product:List D → Res D:=fn 2
  (ret (on m_ratio (acons (o2 dMul (o2 dIx (v 0) (c (.int 0))) (o2 dIx (v 1) (c (.int 0)))) (acons (o2 dMul (o2 dIx (v 0) (c (.int 1))) (o2 dIx (v 1) (c (.int 1)))) anil))))
def m_laid_over:List D → Res D:=fn 3
  (sq (st 2 (on m_minus (acons (mtp (acons (c (.int 1)) (acons (c (.int 1)) anil))) (acons (o1 (dFld objs "part") (v 0)) anil))))
  (ret (on m_plus (acons (on m_product (acons (o1 (dFld objs "part") (v 0)) (acons (o1 (dFld objs "colour") (v 0)) anil))) (acons (on m_product (acons (v 2) (acons (v 1) anil))) anil)))))
def m_under:List D → Res D:=fn 2
  (ret (o2 dLt (o2 dMul (o2 dIx (v 0) (c (.int 0))) (o2 dIx (v 1) (c (.int 1)))) (o2 dMul (o2 dIx (v 1) (c (.int 0))) (o2 dIx (v 0) (c (.int 1))))))
def m_layers_over:List D → Res D:=fn 5
  (sq (stO 2 (mls anil))
  (sq (for_ (iv (v 1)) (gN 3)
  (ifs (bAnd (trb (meth tab_is_glass "is_glass" (o2 dIx (v 3) (c (.int 0))) anil)) (bOr (trb (o1 dIsN (v 0))) (trb (on m_under (acons (o2 dIx (v 3) (c (.int 1))) (acons (o2 dIx (v 0) (c (.int 1))) anil))))))
  (sq (st 4 (pk 2 (on bLen (acons (comp (iv (v 2)) 1 [3] (gN 0) (trb (on m_under (acons (o2 dIx (v 1) (c (.int 1))) (acons (o2 dIx (v 0) (c (.int 1))) anil)))) (v 0)) anil))))
  (insO 2 (v 4) (v 3)))
  nop))
  (frz 2 (ret (v 2)))))
def m_nearest_of:List D → Res D:=fn 3
  (sq (st 1 (c .non))
  (sq (for_ (iv (v 0)) (gN 2)
  (sq (ifs (trb (meth tab_is_glass "is_glass" (o2 dIx (v 2) (c (.int 0))) anil))
  cnt
  nop)
  (ifs (bOr (trb (o1 dIsN (v 1))) (trb (on m_under (acons (o2 dIx (v 2) (c (.int 1))) (acons (o2 dIx (v 1) (c (.int 1))) anil)))))
  (st 1 (v 2))
  nop)))
  (ret (v 1))))
def m_colour_of:List D → Res D:=fn 5
  (sq (st 2 (on m_nearest_of (acons (v 0) anil)))
  (sq (st 3 (v 1))
  (sq (ifs (trb (o1 dNotN (v 2)))
  (st 3 (meth tab_colour_at "colour_at" (o2 dIx (v 2) (c (.int 0))) (acons (o2 dIx (v 2) (c (.int 2))) anil)))
  nop)
  (sq (for_ (iv (on m_layers_over (acons (v 2) (acons (v 0) anil)))) (gN 4)
  (st 3 (on m_laid_over (acons (o2 dIx (v 4) (c (.int 0))) (acons (v 3) anil)))))
  (ret (v 3))))))
def m_sights_at:List D → Res D:=fn 5
  (sq (stO 2 (mls anil))
  (sq (for_ (iv (v 0)) (gN 3)
  (sq (st 4 (on m_seen_at (acons (o1 (dFld objs "triangle") (v 3)) (acons (v 1) anil))))
  (ifs (trb (o1 dNotN (v 4)))
  (app 2 (mtp (acons (v 3) (acons (o2 dIx (v 4) (c (.int 0))) (acons (o2 dIx (v 4) (c (.int 1))) anil)))))
  nop)))
  (frz 2 (ret (v 2)))))
def m_colour_seen:List D → Res D:=fn 3
  (ret (on m_colour_of (acons (on m_sights_at (acons (v 0) (acons (v 1) anil))) (acons (v 2) anil))))
def m_law:List D → Res D:=fn 11
  (sq (st 1 (on m__law_things (acons (v 0) (acons (c (.int 0)) (acons (c (.int 6)) anil)))))
  (sq (st 2 (on m__law_draws (acons (on m__law_cell_at (acons (v 0) (acons (c (.int 8)) anil))) (acons (c (.int 26)) anil))))
  (sq (ifs (trb (o2 dEq (o2 dMod (o2 dIx (v 2) (c (.int 8))) (c (.int 4))) (c (.int 0))))
  (st 1 (comp (iv (v 1)) 1 [] (gN 0) yes (on m__law_flat (acons (v 0) (acons (o1 (dFld objs "triangle") (v 0)) anil)))))
  nop)
  (sq (st 3 (o2 dIx (mls (acons (mtp (acons (c (.int 0)) (acons (c (.int 1)) anil))) (acons (mtp (acons (c (.int 7)) (acons (c (.int 2)) anil))) (acons (mtp (acons (o1 dNeg (c (.int 3))) (acons (c (.int 1)) anil))) anil)))) (o2 dMod (o2 dIx (v 2) (c (.int 9))) (c (.int 3)))))
  (sq (ifs (trb (o2 dEq (o2 dMod (o2 dDiv (o2 dIx (v 2) (c (.int 9))) (c (.int 3))) (c (.int 4))) (c (.int 0))))
  (st 1 (o2 dAdd (v 1) (cut (v 1) pno (pso (c (.int 2))))))
  nop)
  (sq (for_ (r1 (acons (c (.int 8)) anil)) (gN 4)
  (sq (st 5 (o2 dIx (v 2) (v 4)))
  (sq (st 6 (mtp (acons (o2 dAdd (o2 dMul (c (.int 2)) (o2 dMod (o2 dDiv (v 5) (c (.int 8))) (c (.int 8)))) (c (.int 1))) (acons (o2 dAdd (o2 dMul (c (.int 2)) (o2 dMod (o2 dDiv (v 5) (c (.int 64))) (c (.int 8)))) (c (.int 1))) (acons (c (.int 2)) anil)))))
  (sq (ifs (trb (o2 dLt (o2 dMod (v 5) (c (.int 8))) (c (.int 2))))
  (sq (st 7 (o2 dAdd (c (.int 1)) (o2 dMod (o2 dDiv (v 5) (c (.int 8))) (c (.int 9)))))
  (st 6 (mtp (acons (o2 dSub (o2 dMod (o2 dDiv (v 5) (c (.int 128))) (o2 dMul (c (.int 8)) (v 7))) (v 7)) (acons (o2 dSub (o2 dMod (o2 dDiv (v 5) (c (.int 16384))) (o2 dMul (c (.int 8)) (v 7))) (v 7)) (acons (v 7) anil))))))
  nop)
  (sq (ifs (trb (o2 dEq (o2 dMod (v 5) (c (.int 8))) (c (.int 2))))
  (sq (st 8 (o2 dSub (o2 dMod (o2 dIx (v 2) (o2 dAdd (c (.int 10)) (v 4))) (c (.int 200000001))) (o2 dPow (c (.int 10)) (c (.int 8)))))
  (st 6 (mtp (acons (v 8) (acons (o2 dSub (o2 dMod (o2 dIx (v 2) (o2 dAdd (c (.int 18)) (v 4))) (c (.int 200000001))) (o2 dPow (c (.int 10)) (c (.int 8)))) (acons (o2 dAdd (c (.int 1)) (o2 dMod (o2 dDiv (v 5) (c (.int 8))) (o2 dPow (c (.int 10)) (c (.int 8))))) anil))))))
  nop)
  (sq (st 9 (on bLst (acons (v 1) anil)))
  (sq (st 10 (on m_colour_seen (acons (v 9) (acons (v 6) (acons (v 3) anil)))))
  (sq (ifs (bOr (bNot (trb (on bIsi (acons (v 10) (acons (c (.ty "tuple")) anil))))) (trb (o2 dNe (v 10) (on m__law_colour (acons (v 1) (acons (v 6) (acons (v 3) anil)))))))
  (ret (c (.bl false)))
  nop)
  (ifs (bOr (trb (o2 dNe (on bLen (acons (v 9) anil)) (on bLen (acons (v 1) anil)))) (trb (o2 dNe (on m_colour_seen (acons (v 9) (acons (v 6) (acons (v 3) anil)))) (v 10))))
  (ret (c (.bl false)))
  nop)))))))))
  (ret (c (.bl true)))))))))
end My
namespace My
open PySem Dl
theorem w_mixed {Φ:D → Prop} {cc k:Int} (hk:0 ≤ k ∧ k ≤ 1000) (h:∀ r:Int,0 ≤ r ∧ r < 2147483648 → Φ (.int r)):Tl (m__law_mixed [.int cc,.int k]) Φ:=by
 unfold m__law_mixed
 walk_at "w"
 refine w_dec (fun _=>?_) (fun _=>?_)
 ·walk_at "w"
  refine w_dec (fun _=>?_) (fun _=>?_)
  ·walk_at "w"
   refine w_dec (fun _=>?_) (fun _=>?_)
   ·walk_at "w"
    exact h _ (by omega)
   ·walk_at "w"
    exact h _ (by omega)
  ·walk_at "w"
   exact h _ (by omega)
 ·walk_at "w"
  exact h _ (by omega)
def cor (x y w h:Int) (vs:List Int):D:=.tup [.int x,.int y,.int w,.int h,.tup (vs.map .int)]
def Bd (x:Int):Prop:=-1000000 ≤ x ∧ x ≤ 1000000
theorem vals_of {ys:List D} {n:Nat} (hl:ys.length = n) (h:∀ y ∈ ys,∃ v:Int,y = .int v ∧ Bd v):∃ vs:List Int,ys = vs.map .int ∧ vs.length = n ∧ ∀ v ∈ vs,Bd v:=by
 induction ys generalizing n with
 | nil=>exact ⟨[],rfl,hl,fun _ h=>(List.not_mem_nil h).elim⟩
 | cons y r ih =>
  obtain ⟨v,rfl,hv⟩:=h y List.mem_cons_self
  obtain ⟨vs,rfl,l,hb⟩:=ih (n:=r.length) rfl fun z hz=>h z (List.mem_cons_of_mem _ hz)
  refine ⟨v :: vs,rfl,by simpa using hl,fun u hu=>?_⟩
  rcases List.mem_cons.mp hu with rfl | hu
  ·exact hv
  ·exact hb u hu
theorem w_draw {Φ:List D → Prop} {g:MG} {e:ME} {ρ:Ev} {n:Nat} (h:∀ k:Nat,k < n → Tl (g (.int k) ρ) fun ρ1=>Tl (e ρ1) fun y=>∃ v:Int,y = .int v ∧ Bd v) (q:∀ vs:List Int,vs.length = n → (∀ v ∈ vs,Bd v) → Φ (vs.map .int)):Tl (compGo g yes e ρ (rangeD 0 n)) Φ:=by
 have hl:(rangeD 0 n).length = n:=by unfold rangeD;simp
 refine w_all (fun _ y=>∃ v:Int,y = .int v ∧ Bd v) (fun x hx=>?_) fun ys l hp=>?_
 ·obtain ⟨k,hk,rfl⟩:=mem_range hx
  exact h k hk
 ·obtain ⟨vs,rfl,l2,hb⟩:=vals_of (n:=n) (l.trans hl) fun y hy=>by
   obtain ⟨i,hi,rfl⟩:=List.mem_iff_getElem.mp hy
   exact hp i _ _ (List.getElem?_eq_getElem (by omega)) (List.getElem?_eq_getElem hi)
  exact q vs l2 hb
theorem w_cell_at {Φ:D → Prop} {ns:List Int} {k:Int} (hk:0 ≤ k) (h:∀ n:Int,Φ (.int n)):Tl (m__law_cell_at [.lst (ns.map .int),.int k]) Φ:=by
 unfold m__law_cell_at
 walk_at "w"
 refine w_dec (fun hl=>?_) (fun _=>?_)
 ·walk_at "w"
  refine w_ixI (by omega) fun n _=>?_
  walk_at "w"
  exact h n
 ·walk_at "w"
  exact h 0
end My
namespace Mt
end Mt
namespace My
open PySem Dl
theorem w_greatest_divisor {Φ:D → Prop} {ns:List Int} (h:Φ (.int (Mt.gcdL 0 ns))):Tl (m_greatest_divisor [.lst (ns.map .int)]) Φ:=by
 unfold m_greatest_divisor
 walk_at "w"
 refine w_invP (fun p ρ=>∃ (p':List Int) (v2 v3 v4:Cl),p = p'.map .int ∧ ρ = [.im (.lst (ns.map .int)),.im (.int (Mt.gcdL 0 p')),v2,v3,v4]) ⟨[],_,_,_,rfl,rfl⟩ ?_ ?_
 ·rintro p x r hx ρ ⟨p',v2,v3,v4,rfl,rfl⟩
  obtain ⟨n,rfl⟩ : ∃ n:Int,x = .int n:=by
   have:x ∈ ns.map .int:=by rw [hx];simp
   obtain ⟨n,_,rfl⟩:=List.mem_map.mp this
   exact ⟨n,rfl⟩
  walk_at "w"
  refine w_wh (fun ρ=>∃ (f m:Nat) (v4:Cl),ρ = [.im (.lst (ns.map .int)),.im (.int f),.im (.int n),.im (.int m),v4] ∧ Nat.gcd f m = Nat.gcd (Mt.gcdL 0 p') n.natAbs) (absAt 3) ⟨_,_,_,rfl,rfl⟩ (absAt_fuel _ _) ?_
  rintro ρ ⟨f,m,v4,rfl,e⟩
  walk_at "w"
  refine ⟨fun hb=>?_,fun hb=>?_⟩
  ·have hm:m ≠ 0:=by simpa using hb
   walk_at "w"
   refine ⟨_,rfl,⟨m,f % m,_,rfl,?_⟩,?_⟩
   ·rw [← e,Mt.gcd_turn]
   ·have:=Nat.mod_lt f (Nat.pos_of_ne_zero hm)
    simp [absAt,absC]
    omega
  ·have hm:m = 0:=by simpa using hb
   subst hm
   rw [Nat.gcd_zero_right] at e
   have e2:Mt.gcdL 0 (p' ++ [n]) = Nat.gcd (Mt.gcdL 0 p') n.natAbs:=by
    have key:∀ (l:List Int) (g:Nat),Mt.gcdL g (l ++ [n]) = Nat.gcd (Mt.gcdL g l) n.natAbs:=by
     intro l
     induction l with
     | nil=>exact fun g=>rfl
     | cons y l ih=>exact fun g=>ih _
    exact key p' 0
   exact ⟨_,rfl,p' ++ [n],.im (.int n),.im (.int ((0:Nat):Int)),v4,by simp,by rw [e2,← e]⟩
 ·rintro ρ ⟨p',v2,v3,v4,hp,rfl⟩
  walk_at "w"
  have:ns = p':=ints_inj hp
  rw [← this]
  exact h
theorem w_greatest_divisorT {Φ:D → Prop} {ns:List Int} (h:Φ (.int (Mt.gcdL 0 ns))):Tl (m_greatest_divisor [.tup (ns.map .int)]) Φ:=by
 unfold m_greatest_divisor
 walk_at "w"
 refine w_invP (fun p ρ=>∃ (p':List Int) (v2 v3 v4:Cl),p = p'.map .int ∧ ρ = [.im (.tup (ns.map .int)),.im (.int (Mt.gcdL 0 p')),v2,v3,v4]) ⟨[],_,_,_,rfl,rfl⟩ ?_ ?_
 ·rintro p x r hx ρ ⟨p',v2,v3,v4,rfl,rfl⟩
  obtain ⟨n,rfl⟩ : ∃ n:Int,x = .int n:=by
   have:x ∈ ns.map .int:=by rw [hx];simp
   obtain ⟨n,_,rfl⟩:=List.mem_map.mp this
   exact ⟨n,rfl⟩
  walk_at "w"
  refine w_wh (fun ρ=>∃ (f m:Nat) (v4:Cl),ρ = [.im (.tup (ns.map .int)),.im (.int f),.im (.int n),.im (.int m),v4] ∧ Nat.gcd f m = Nat.gcd (Mt.gcdL 0 p') n.natAbs) (absAt 3) ⟨_,_,_,rfl,rfl⟩ (absAt_fuel _ _) ?_
  rintro ρ ⟨f,m,v4,rfl,e⟩
  walk_at "w"
  refine ⟨fun hb=>?_,fun hb=>?_⟩
  ·have hm:m ≠ 0:=by simpa using hb
   walk_at "w"
   refine ⟨_,rfl,⟨m,f % m,_,rfl,?_⟩,?_⟩
   ·rw [← e,Mt.gcd_turn]
   ·have:=Nat.mod_lt f (Nat.pos_of_ne_zero hm)
    simp [absAt,absC]
    omega
  ·have hm:m = 0:=by simpa using hb
   subst hm
   rw [Nat.gcd_zero_right] at e
   have e2:Mt.gcdL 0 (p' ++ [n]) = Nat.gcd (Mt.gcdL 0 p') n.natAbs:=by
    have key:∀ (l:List Int) (g:Nat),Mt.gcdL g (l ++ [n]) = Nat.gcd (Mt.gcdL g l) n.natAbs:=by
     intro l
     induction l with
     | nil=>exact fun g=>rfl
     | cons y l ih=>exact fun g=>ih _
    exact key p' 0
   exact ⟨_,rfl,p' ++ [n],.im (.int n),.im (.int ((0:Nat):Int)),v4,by simp,by rw [e2,← e]⟩
 ·rintro ρ ⟨p',v2,v3,v4,hp,rfl⟩
  walk_at "w"
  have:ns = p':=ints_inj hp
  rw [← this]
  exact h
def fra (t b:Int):D:=.tup [.int (Mt.frT t b),.int (Mt.frB t b)]
theorem gcd_le {t b:Int} (h:b ≠ 0):Int.gcd t b ≤ b.natAbs:=Nat.le_of_dvd (by omega) (Int.natAbs_dvd_natAbs.mpr (Int.gcd_dvd_right t b) |> fun y=>by simpa using y)
theorem w_divP {Φ:D → Prop} {x y:Int} {k:Nat} (hy:0 < y) (s:Sm k y) (hk:k ≤ 8000) (h:Φ (.int (x.fdiv y))):Tl (dDiv (.int x) (.int y)) Φ:=by
 refine w_div hy (s.log (by omega)) ?_
 rw [← Int.fdiv_eq_ediv_of_nonneg _ (by omega)]
 exact h
theorem w_divM {Φ:D → Prop} {x y:Int} {k:Nat} (hy:y < 0) (s:Sm k y) (hk:k ≤ 8000) (h:Φ (.int (x.fdiv y))):Tl (dDiv (.int x) (.int y)) Φ:=w_divN hy (s.log (by omega)) h
theorem w_ratio {Φ:D → Prop} {t b:Int} {k:Nat} (hb:b ≠ 0) (sb:Sm k b) (hk:k ≤ 8000) (h:Φ (fra t b)):Tl (m_ratio [.int t,.int b]) Φ:=by
 have g0:=Mt.gcd_pos' (t:=t) hb
 have sg:Sm k (Int.gcd t b:Int):=sb.le (by rw [Int.natAbs_natCast];exact gcd_le hb)
 unfold m_ratio
 walk_at "w"
 refine w_greatest_divisor (ns:=[t,b]) ?_
 rw [Mt.gcdL_two]
 walk_at "w"
 unfold fra Mt.frT Mt.frB at h
 refine w_dec (fun h0=>?_) (fun h0=>?_)
 ·walk_at "w"
  rw [if_pos h0,if_pos h0] at h
  refine w_divM (by omega) sg.neg hk ?_
  walk_at "w"
  refine w_divM (by omega) sg.neg hk ?_
  walk_at "w"
  exact h
 ·walk_at "w"
  rw [if_neg h0,if_neg h0] at h
  refine w_divP (by omega) sg hk ?_
  walk_at "w"
  refine w_divP (by omega) sg hk ?_
  walk_at "w"
  exact h
abbrev dot (x y z e f g:Int):Int:=x * e + y * f + z * g
theorem dot_sm {x y z e f g:Int} {k n:Nat} (hx:Sm k x) (hy:Sm k y) (hz:Sm k z) (he:Sm n e) (hf:Sm n f) (hg:Sm n g):Sm (k + n + 2) (dot x y z e f g):=(((hx.mul he).add (hy.mul hf)).add (hz.mul hg)).mono (by omega)
theorem w_sumP {Φ:D → Prop} {x y z e f g:Int} {k n:Nat} (hx:Sm k x) (hy:Sm k y) (hz:Sm k z) (he:Sm n e) (hf:Sm n f) (hg:Sm n g) (hk:k + n ≤ 8000) (q:Φ (.int (dot x y z e f g))):Tl (m_summed_products [.lst [.int x,.int y,.int z],.tup [.int e,.int f,.int g]]) Φ:=by
 have m1:mulOk x e = true:=mulOk_s hx he (by omega)
 have m2:mulOk y f = true:=mulOk_s hy hf (by omega)
 have m3:mulOk z g = true:=mulOk_s hz hg (by omega)
 unfold m_summed_products
 walk_at "w"
 exact q
theorem w_sumT {Φ:D → Prop} {x y z e f g:Int} {k n:Nat} (hx:Sm k x) (hy:Sm k y) (hz:Sm k z) (he:Sm n e) (hf:Sm n f) (hg:Sm n g) (hk:k + n ≤ 8000) (q:Φ (.int (dot x y z e f g))):Tl (m_summed_products [.tup [.int x,.int y,.int z],.tup [.int e,.int f,.int g]]) Φ:=by
 have m1:mulOk x e = true:=mulOk_s hx he (by omega)
 have m2:mulOk y f = true:=mulOk_s hy hf (by omega)
 have m3:mulOk z g = true:=mulOk_s hz hg (by omega)
 unfold m_summed_products
 walk_at "w"
 exact q
structure Cv (k:Nat) (x y w h:Int) (vs:List Int):Prop where
 fx:Sm k x
 fy:Sm k y
 fw:Sm k w
 fh:Sm k h
 fv:∀ v ∈ vs,Sm k v
 f1:1 ≤ h
theorem w_weighed {Φ:D → Prop} {ax ay aw ah bx bY bw bh cx cy cw ch e f g:Int} {av bv cv:List Int} {k n:Nat} (a:Cv k ax ay aw ah av) (b:Cv k bx bY bw bh bv) (c:Cv k cx cy cw ch cv) (he:Sm n e) (hf:Sm n f) (hg:Sm n g) (hk:k + n ≤ 8000) (q:Φ (.int (dot ah bh ch e f g))):Tl (m_weighed_h [.tup [cor ax ay aw ah av,cor bx bY bw bh bv,cor cx cy cw ch cv],.tup [.int e,.int f,.int g]]) Φ:=by
 unfold m_weighed_h cor
 walk_at "w"
 refine ⟨by show (3:Nat) ≤ _;omega,?_⟩
 refine w_cg1 ?_
 walk_at "w"
 refine w_cg1 ?_
 walk_at "w"
 refine w_cg1 ?_
 walk_at "w"
 refine w_cg0 ?_
 walk_at "w"
 refine w_sumP a.fh b.fh c.fh he hf hg hk ?_
 walk_at "w"
 exact q
theorem trips_ints:∀ (xs ys zs:List Int),trips (xs.map .int) (ys.map .int) (zs.map .int) = (xs.zip (ys.zip zs)).map fun t=>.tup [.int t.1,.int t.2.1,.int t.2.2]
 | [],_,_=>by simp [trips]
 | _ :: _,[],_=>by simp [trips]
 | _ :: _,_ :: _,[]=>by simp [trips]
 | x :: xs,y :: ys,z :: zs=>by simp [trips,trips_ints xs ys zs]
def vls (av bv cv:List Int) (e f g B:Int):List D:=(av.zip (bv.zip cv)).map fun t=>fra (dot t.1 t.2.1 t.2.2 e f g) B
theorem zip3_mem {av bv cv:List Int} {t:Int × Int × Int} (h:t ∈ av.zip (bv.zip cv)):t.1 ∈ av ∧ t.2.1 ∈ bv ∧ t.2.2 ∈ cv:=by
 obtain ⟨x,y,z⟩:=t
 have h1:=List.of_mem_zip h
 have h2:=List.of_mem_zip h1.2
 exact ⟨h1.1,h2.1,h2.2⟩
theorem w_depth {Φ:D → Prop} {ax ay aw ah bx bY bw bh cx cy cw ch e f g:Int} {av bv cv:List Int} {k n:Nat} (a:Cv k ax ay aw ah av) (b:Cv k bx bY bw bh bv) (c:Cv k cx cy cw ch cv) (he:Sm n e) (hf:Sm n f) (hg:Sm n g) (hk:k + n ≤ 7000) (hl:av.length ≤ 1000) (h0:dot ah bh ch e f g ≠ 0)
  (q:Φ (.tup [fra (dot aw bw cw e f g) (dot ah bh ch e f g),.tup (vls av bv cv e f g (dot ah bh ch e f g))])):Tl (m_depth_and_values [.tup [cor ax ay aw ah av,cor bx bY bw bh bv,cor cx cy cw ch cv],.tup [.int e,.int f,.int g]]) Φ:=by
 have sB:=dot_sm a.fh b.fh c.fh he hf hg
 unfold m_depth_and_values
 walk_at "w"
 refine w_weighed a b c he hf hg (by omega) ?_
 generalize dot ah bh ch e f g = B at *
 unfold cor
 walk_at "w"
 refine ⟨by show (3:Nat) ≤ _;omega,?_⟩
 refine w_cg1 ?_
 walk_at "w"
 refine w_cg1 ?_
 walk_at "w"
 refine w_cg1 ?_
 walk_at "w"
 refine w_cg0 ?_
 walk_at "w"
 refine w_sumP a.fw b.fw c.fw he hf hg (by omega) ?_
 walk_at "w"
 refine w_ratio h0 sB (by omega) ?_
 walk_at "w"
 rw [trips_ints]
 refine ⟨by rw [List.length_map,List.length_zip];omega,?_⟩
 refine w_mapP (fun t=>fra (dot t.1 t.2.1 t.2.2 e f g) B) (fun t ht=>?_) ?_
 ·obtain ⟨t1,t2,t3⟩:=zip3_mem ht
  walk_at "w"
  refine w_sumT (a.fv _ t1) (b.fv _ t2) (c.fv _ t3) he hf hg (by omega) ?_
  walk_at "w"
  exact w_ratio h0 sB (by omega) rfl
 walk_at "w"
 exact q
abbrev ow (ax ay aw bx bY bw cx cy cw:Int):Int:=(ay * bw - aw * bY) * cx + (aw * bx - ax * bw) * cy + (ax * bY - ay * bx) * cw
theorem sm6 {x:Int} (h:-100000000 ≤ x ∧ x ≤ 100000000):Sm 64 x:=Sm.of64 (by omega) (by omega)
structure Cr (x y w:Int):Prop where
 x:Sm 64 x
 y:Sm 64 y
 w:Sm 64 w
theorem Cr.n {ax ay aw bx bY bw:Int} (a:Cr ax ay aw) (b:Cr bx bY bw):Sm 129 (ay * bw - aw * bY) ∧ Sm 129 (aw * bx - ax * bw) ∧ Sm 129 (ax * bY - ay * bx) :=
 ⟨(a.y.mul b.w).sub (a.w.mul b.y),(a.w.mul b.x).sub (a.x.mul b.w),(a.x.mul b.y).sub (a.y.mul b.x)⟩
theorem Cr.ow {ax ay aw bx bY bw cx cy cw:Int} (a:Cr ax ay aw) (b:Cr bx bY bw) (c:Cr cx cy cw):Sm 200 (ow ax ay aw bx bY bw cx cy cw):=by
 obtain ⟨n1,n2,n3⟩:=a.n b
 exact (((n1.mul c.x).add (n2.mul c.y)).add (n3.mul c.w)).mono (by decide)
theorem Bd.s {x:Int} (h:Bd x):Sm 64 x:=sm6 ⟨by have:=h.1;omega,by have:=h.2;omega⟩
theorem w_edge_numbers {Φ:D → Prop} {ax ay aw ah bx bY bw bh:Int} {av bv:List Int} (a:Cr ax ay aw) (b:Cr bx bY bw) (h:Φ (.tup [.int (ay * bw - aw * bY),.int (aw * bx - ax * bw),.int (ax * bY - ay * bx)])):Tl (m_edge_numbers [cor ax ay aw ah av,cor bx bY bw bh bv]) Φ:=by
 obtain ⟨a1,a2,a3⟩:=a
 obtain ⟨b1,b2,b3⟩:=b
 unfold m_edge_numbers cor
 walk_at "w"
 exact h
theorem w_summed {Φ:D → Prop} {l m n px py ps:Int} (hl:Sm 129 l) (hm:Sm 129 m) (hn:Sm 129 n) (p:Cr px py ps) (h:Φ (.int (l * px + m * py + n * ps))):Tl (m_summed_products [.tup [.int l,.int m,.int n],.tup [.int px,.int py,.int ps]]) Φ:=by
 obtain ⟨p1,p2,p3⟩:=p
 unfold m_summed_products
 walk_at "w"
 exact h
def sg (x:Int):Int:=if 0 < x then 1 else if x < 0 then -1 else 0
def sd3 (s m n:Int):Int:=if s = 0 then (if m = 0 then sg n else sg m) else sg s
theorem sg_pos {x:Int} (h:0 < x):sg x = 1:=if_pos h
theorem sg_neg {x:Int} (h:x < 0):sg x = -1:=by unfold sg;rw [if_neg (by omega),if_pos h]
theorem sg_zero:sg 0 = 0:=rfl
theorem sg_opp (x:Int):sg (-x) = - sg x:=by unfold sg;split <;> split <;> (try split) <;> (try split) <;> omega
theorem sd3_opp (s m n:Int):sd3 (-s) (-m) (-n) = - sd3 s m n:=by
 unfold sd3
 rw [sg_opp,sg_opp,sg_opp]
 split <;> split <;> (try split) <;> (try split) <;> omega
theorem sg_of {x:Int}:sg x = 1 ∧ 0 < x ∨ sg x = 0 ∧ x = 0 ∨ sg x = -1 ∧ x < 0:=by
 unfold sg;split <;> (try split) <;> omega
theorem sg_any (x:Int):sg x = 1 ∨ sg x = 0 ∨ sg x = -1:=by
 rcases sg_of (x:=x) with h | h | h
 ·exact .inl h.1
 ·exact .inr (.inl h.1)
 ·exact .inr (.inr h.1)
theorem sd3_of (s m n:Int):sd3 s m n = 1 ∨ sd3 s m n = 0 ∨ sd3 s m n = -1:=by
 unfold sd3
 by_cases h:s = 0
 ·rw [if_pos h]
  by_cases h':m = 0
  ·rw [if_pos h'];exact sg_any n
  ·rw [if_neg h'];exact sg_any m
 ·rw [if_neg h];exact sg_any s
theorem sd3_iff {s m n e:Int} {P Q R:Prop} (h1:sg s = e ↔ P) (h2:sg m = e ↔ Q) (h3:sg n = e ↔ R):sd3 s m n = e ↔ (¬ s = 0 ∧ P) ∨ (s = 0 ∧ ((¬ m = 0 ∧ Q) ∨ (m = 0 ∧ R))):=by
 unfold sd3
 by_cases h:s = 0
 ·rw [if_pos h]
  by_cases h':m = 0
  ·rw [if_pos h',h3];simp [h,h']
  ·rw [if_neg h',h2];simp [h,h']
 ·rw [if_neg h,h1];simp [h]
theorem sg_eq1 {x:Int}:sg x = 1 ↔ 0 < x:=by rcases sg_of (x:=x) with h | h | h <;> omega
theorem sg_eqm {x:Int}:sg x = -1 ↔ x < 0:=by rcases sg_of (x:=x) with h | h | h <;> omega
abbrev sdE (ax ay aw bx bY bw px py ps:Int):Int:=sd3 (ow ax ay aw bx bY bw px py ps) (ay * bw - aw * bY) (aw * bx - ax * bw)
theorem sdE_opp (ax ay aw bx bY bw px py ps:Int):sdE bx bY bw ax ay aw px py ps = - sdE ax ay aw bx bY bw px py ps:=by
 unfold sdE
 rw [← sd3_opp]
 congr 1
 ·unfold ow;grind
 ·grind
 ·grind
theorem w_side {Φ:D → Prop} {ax ay aw ah bx bY bw bh px py ps:Int} {av bv:List Int} (a:Cr ax ay aw) (b:Cr bx bY bw) (p:Cr px py ps) (h:Φ (.int (sdE ax ay aw bx bY bw px py ps))):Tl (m_side [cor ax ay aw ah av,cor bx bY bw bh bv,.tup [.int px,.int py,.int ps]]) Φ:=by
 unfold m_side
 walk_at "w"
 refine w_edge_numbers a b ?_
 walk_at "w"
 obtain ⟨n1,n2,n3⟩:=a.n b
 refine w_summed n1 n2 n3 p ?_
 walk_at "w"
 unfold sdE sd3 at h
 change Φ (.int (if ow ax ay aw bx bY bw px py ps = 0 then _ else _)) at h
 show Tl (forGo _ _ [.int (ow ax ay aw bx bY bw px py ps),.int _,.int _] _) _
 generalize ow ax ay aw bx bY bw px py ps = s at *
 generalize ay * bw - aw * bY = m at *
 generalize aw * bx - ax * bw = n at *
 refine w_f1 ?_
 walk_at "w"
 refine w_ndec (fun h0=>?_) (fun h0=>?_)
 ·rw [if_neg h0] at h
  walk_at "w"
  refine w_dec (fun h1=>?_) (fun h1=>?_)
  ·walk_at "w"
   rw [sg_pos h1] at h
   exact h
  ·walk_at "w"
   rw [sg_neg (by omega)] at h
   exact h
 rw [if_pos h0] at h
 walk_at "w"
 refine w_f1 ?_
 walk_at "w"
 refine w_ndec (fun h0=>?_) (fun h0=>?_)
 ·rw [if_neg h0] at h
  walk_at "w"
  refine w_dec (fun h1=>?_) (fun h1=>?_)
  ·walk_at "w"
   rw [sg_pos h1] at h
   exact h
  ·walk_at "w"
   rw [sg_neg (by omega)] at h
   exact h
 rw [if_pos h0] at h
 walk_at "w"
 refine w_f1 ?_
 walk_at "w"
 refine w_ndec (fun h0=>?_) (fun h0=>?_)
 ·walk_at "w"
  refine w_dec (fun h1=>?_) (fun h1=>?_)
  ·walk_at "w"
   rw [sg_pos h1] at h
   exact h
  ·walk_at "w"
   rw [sg_neg (by omega)] at h
   exact h
 walk_at "w"
 refine w_f0 ?_
 walk_at "w"
 rw [h0,sg_zero] at h
 exact h
theorem w_check {Φ:D → Prop} {ax ay aw ah bx bY bw bh cx cy cw ch:Int} {av bv cv:List Int} (ha:1 ≤ aw) (hb:1 ≤ bw) (hc:1 ≤ cw) (h:Φ .non):Tl (m_check_before_eye [.tup [cor ax ay aw ah av,cor bx bY bw bh bv,cor cx cy cw ch cv]]) Φ:=by
 unfold m_check_before_eye cor
 walk_at "w"
 refine w_f1 ?_
 walk_at "w"
 refine w_f1 ?_
 walk_at "w"
 refine w_f1 ?_
 walk_at "w"
 refine w_f0 ?_
 walk_at "w"
 exact h
def hd3 (ab bc ca:Int):Int:=if ab = bc ∧ bc = ca then ab else 0
theorem w_had {Φ:D → Prop} {ax ay aw ah bx bY bw bh cx cy cw ch px py ps:Int} {av bv cv:List Int} (ha:1 ≤ aw) (hb:1 ≤ bw) (hc:1 ≤ cw) (a:Cr ax ay aw) (b:Cr bx bY bw) (c:Cr cx cy cw) (p:Cr px py ps) (h:Φ (.int (hd3 (sdE ax ay aw bx bY bw px py ps) (sdE bx bY bw cx cy cw px py ps) (sdE cx cy cw ax ay aw px py ps)))):Tl (m_had [.tup [cor ax ay aw ah av,cor bx bY bw bh bv,cor cx cy cw ch cv],.tup [.int px,.int py,.int ps]]) Φ:=by
 unfold m_had
 walk_at "w"
 refine w_check ha hb hc ?_
 walk_at "w"
 refine w_side a b p ?_
 walk_at "w"
 refine w_side b c p ?_
 walk_at "w"
 unfold hd3 at h
 refine w_ndec (fun h0=>?_) (fun h0=>?_)
 ·walk_at "w"
  rw [if_neg (by omega)] at h
  exact h
 walk_at "w"
 refine w_side c a p ?_
 walk_at "w"
 refine w_ndec (fun h1=>?_) (fun h1=>?_)
 ·walk_at "w"
  rw [if_neg (by omega)] at h
  exact h
 walk_at "w"
 rw [if_pos (by omega)] at h
 exact h
theorem w_edge_sum {Φ:D → Prop} {ax ay aw ah bx bY bw bh px py ps:Int} {av bv:List Int} (a:Cr ax ay aw) (b:Cr bx bY bw) (p:Cr px py ps) (h:Φ (.int (ow ax ay aw bx bY bw px py ps))):Tl (m_edge_sum [cor ax ay aw ah av,cor bx bY bw bh bv,.tup [.int px,.int py,.int ps]]) Φ:=by
 unfold m_edge_sum
 walk_at "w"
 refine w_edge_numbers a b ?_
 walk_at "w"
 obtain ⟨n1,n2,n3⟩:=a.n b
 refine w_summed n1 n2 n3 p ?_
 walk_at "w"
 exact h
theorem w_weights {Φ:D → Prop} {ax ay aw ah bx bY bw bh cx cy cw ch px py ps:Int} {av bv cv:List Int} (a:Cr ax ay aw) (b:Cr bx bY bw) (c:Cr cx cy cw) (p:Cr px py ps)
  (h:Φ (.tup [.int (ow bx bY bw cx cy cw px py ps),.int (ow cx cy cw ax ay aw px py ps),.int (ow ax ay aw bx bY bw px py ps)])):Tl (m_weights [.tup [cor ax ay aw ah av,cor bx bY bw bh bv,cor cx cy cw ch cv],.tup [.int px,.int py,.int ps]]) Φ:=by
 unfold m_weights
 walk_at "w"
 refine w_edge_sum b c p ?_
 walk_at "w"
 refine w_edge_sum c a p ?_
 walk_at "w"
 refine w_edge_sum a b p ?_
 walk_at "w"
 exact h
theorem sd3_one {s m n:Int}:sd3 s m n = 1 ↔ 0 < s ∨ (s = 0 ∧ (0 < m ∨ (m = 0 ∧ 0 < n))):=by
 rw [sd3_iff sg_eq1 sg_eq1 sg_eq1]
 omega
theorem sd3_one' {s m n:Int}:sd3 s m n = -1 ↔ s < 0 ∨ (s = 0 ∧ (m < 0 ∨ (m = 0 ∧ n < 0))):=by
 rw [sd3_iff sg_eqm sg_eqm sg_eqm]
 omega
theorem mul0 {a b:Int} (ha:0 < a) (hb:0 ≤ b):0 ≤ a * b:=Int.mul_nonneg (Int.le_of_lt ha) hb
theorem zero_of {a b c x y z:Int} (ha:0 < a) (hb:0 < b) (hc:0 < c) (hx:0 ≤ x) (hy:0 ≤ y) (hz:0 ≤ z) (h:a * x + b * y + c * z ≤ 0):x = 0 ∧ y = 0 ∧ z = 0:=by
 have h1:=mul0 ha hx
 have h2:=mul0 hb hy
 have h3:=mul0 hc hz
 refine ⟨?_,?_,?_⟩
 ·rcases Int.mul_eq_zero.mp (show a * x = 0 by omega) with h | h <;> omega
 ·rcases Int.mul_eq_zero.mp (show b * y = 0 by omega) with h | h <;> omega
 ·rcases Int.mul_eq_zero.mp (show c * z = 0 by omega) with h | h <;> omega
theorem own_pos {ax ay aw bx bY bw cx cy cw px py ps:Int} (ha:0 < aw) (hb:0 < bw) (hc:0 < cw) (hp:0 < ps) (h1:sdE ax ay aw bx bY bw px py ps = 1) (h2:sdE bx bY bw cx cy cw px py ps = 1) (h3:sdE cx cy cw ax ay aw px py ps = 1):0 < ow ax ay aw bx bY bw cx cy cw:=by
 unfold sdE at h1 h2 h3
 rw [sd3_one] at h1 h2 h3
 have i0:aw * ow bx bY bw cx cy cw px py ps + bw * ow cx cy cw ax ay aw px py ps + cw * ow ax ay aw bx bY bw px py ps = ow ax ay aw bx bY bw cx cy cw * ps:=by unfold ow;grind
 have i1:aw * (bY * cw - bw * cy) + bw * (cy * aw - cw * ay) + cw * (ay * bw - aw * bY) = 0:=by grind
 have i2:aw * (bw * cx - bx * cw) + bw * (cw * ax - cx * aw) + cw * (aw * bx - ax * bw) = 0:=by grind
 generalize ow bx bY bw cx cy cw px py ps = e at *
 generalize ow cx cy cw ax ay aw px py ps = f at *
 generalize ow ax ay aw bx bY bw px py ps = g at *
 generalize ow ax ay aw bx bY bw cx cy cw = o at *
 by_cases ho:0 < o
 ·exact ho
 exfalso
 have ho':o * ps ≤ 0:=by
  have:=Int.mul_nonneg (show 0 ≤ -o by omega) (show 0 ≤ ps by omega)
  rw [Int.neg_mul] at this
  omega
 obtain ⟨z1,z2,z3⟩:=zero_of ha hb hc (x:=e) (y:=f) (z:=g) (by omega) (by omega) (by omega) (by omega)
 obtain ⟨y1,y2,y3⟩:=zero_of ha hb hc (x:=bY * cw - bw * cy) (y:=cy * aw - cw * ay) (z:=ay * bw - aw * bY) (by omega) (by omega) (by omega) (by omega)
 obtain ⟨x1,x2,x3⟩:=zero_of ha hb hc (x:=bw * cx - bx * cw) (y:=cw * ax - cx * aw) (z:=aw * bx - ax * bw) (by omega) (by omega) (by omega) (by omega)
 omega
theorem own_neg {ax ay aw bx bY bw cx cy cw px py ps:Int} (ha:0 < aw) (hb:0 < bw) (hc:0 < cw) (hp:0 < ps) (h1:sdE ax ay aw bx bY bw px py ps = -1) (h2:sdE bx bY bw cx cy cw px py ps = -1) (h3:sdE cx cy cw ax ay aw px py ps = -1):ow ax ay aw bx bY bw cx cy cw < 0:=by
 have z:=own_pos hc hb ha hp (by rw [sdE_opp bx bY bw cx cy cw,h2];rfl) (by rw [sdE_opp ax ay aw bx bY bw,h1];rfl) (by rw [sdE_opp cx cy cw ax ay aw,h3];rfl)
 have e:ow cx cy cw bx bY bw ax ay aw = - ow ax ay aw bx bY bw cx cy cw:=by unfold ow;grind
 omega
abbrev hdE (ax ay aw bx bY bw cx cy cw px py ps:Int):Int:=hd3 (sdE ax ay aw bx bY bw px py ps) (sdE bx bY bw cx cy cw px py ps) (sdE cx cy cw ax ay aw px py ps)
theorem hd3_cases {x y z:Int} (hx:x = 1 ∨ x = 0 ∨ x = -1) (h:hd3 x y z ≠ 0):∃ e,(e = 1 ∨ e = -1) ∧ x = e ∧ y = e ∧ z = e:=by
 unfold hd3 at h
 split at h
 ·exact ⟨x,by omega,rfl,by omega,by omega⟩
 ·exact absurd rfl h
theorem w_upto {Φ:Fl → Prop} {g:MG} {k:MS} {ρ:Ev} {enc:Nat → D} {n:Nat} (I:Nat → Ev → Prop) (h0:I 0 ρ) (h:∀ j,j < n → ∀ ρ,I j ρ → Tl (g (enc j) ρ) fun ρ1=>Tl (k ρ1) fun f=>∃ ρ2,f = .nx ρ2 ∧ I (j + 1) ρ2) (hd:∀ ρ,I n ρ → Φ (.nx ρ)):Tl (forGo g k ((List.range n).map enc) ρ) Φ:=by
 refine w_invP (fun p ρ=>I p.length ρ) h0 (fun p x r e ρ i=>?_) fun ρ i=>?_
 ·have l:p.length < n:=by
   have:=congrArg List.length e
   simp at this
   omega
  have ex:x = enc p.length:=by
   have z:=congrArg (fun l=>l[p.length]?) e
   simp [l] at z
   exact z.symm
  subst ex
  obtain ⟨ρ1,e1,f,e2,ρ2,rfl,i2⟩:=h _ l ρ i
  refine ⟨ρ1,e1,_,e2,ρ2,rfl,?_⟩
  simpa using i2
 ·simp at i
  exact hd ρ i
theorem rangeD_eq (n:Nat):rangeD 0 n = (List.range n).map fun (k:Nat)=>D.int (k:Int):=by
 unfold rangeD
 simp
section
variable {Φ:D → Prop}
end
def Wt (e f g:Int):Prop:=(0 ≤ e ∧ 0 ≤ f ∧ 0 ≤ g ∧ 0 < e + f + g) ∨ (e ≤ 0 ∧ f ≤ 0 ∧ g ≤ 0 ∧ e + f + g < 0)
theorem wt_had {ax ay aw bx bY bw cx cy cw px py ps:Int} (ha:0 < aw) (hb:0 < bw) (hc:0 < cw) (hp:0 < ps) (h:hdE ax ay aw bx bY bw cx cy cw px py ps ≠ 0):Wt (ow bx bY bw cx cy cw px py ps) (ow cx cy cw ax ay aw px py ps) (ow ax ay aw bx bY bw px py ps):=by
 obtain ⟨s,hs,p1,p2,p3⟩:=hd3_cases (sd3_of _ _ _) h
 have i0:aw * ow bx bY bw cx cy cw px py ps + bw * ow cx cy cw ax ay aw px py ps + cw * ow ax ay aw bx bY bw px py ps = ow ax ay aw bx bY bw cx cy cw * ps:=by unfold ow;grind
 rcases hs with rfl | rfl
 ·have o:=own_pos ha hb hc hp p1 p2 p3
  have op:=Int.mul_pos o hp
  rw [sd3_one] at p1 p2 p3
  left
  refine ⟨by omega,by omega,by omega,?_⟩
  by_cases z:0 < ow bx bY bw cx cy cw px py ps + ow cx cy cw ax ay aw px py ps + ow ax ay aw bx bY bw px py ps
  ·exact z
  ·exfalso
   have e1:ow bx bY bw cx cy cw px py ps = 0:=by omega
   have e2:ow cx cy cw ax ay aw px py ps = 0:=by omega
   have e3:ow ax ay aw bx bY bw px py ps = 0:=by omega
   rw [e1,e2,e3] at i0
   omega
 ·have o:=own_neg ha hb hc hp p1 p2 p3
  have op:=Int.mul_pos (show 0 < - ow ax ay aw bx bY bw cx cy cw by omega) hp
  rw [Int.neg_mul] at op
  rw [sd3_one'] at p1 p2 p3
  right
  refine ⟨by omega,by omega,by omega,?_⟩
  by_cases z:ow bx bY bw cx cy cw px py ps + ow cx cy cw ax ay aw px py ps + ow ax ay aw bx bY bw px py ps < 0
  ·exact z
  ·exfalso
   have e1:ow bx bY bw cx cy cw px py ps = 0:=by omega
   have e2:ow cx cy cw ax ay aw px py ps = 0:=by omega
   have e3:ow ax ay aw bx bY bw px py ps = 0:=by omega
   rw [e1,e2,e3] at i0
   omega
theorem mul_ge {a x:Int} (ha:1 ≤ a) (hx:0 ≤ x):x ≤ a * x:=by
 have:=Int.mul_le_mul_of_nonneg_right ha hx
 omega
theorem mul_le' {a x:Int} (ha:1 ≤ a) (hx:x ≤ 0):a * x ≤ x:=by
 have:=Int.mul_le_mul_of_nonneg_right ha (show 0 ≤ -x by omega)
 rw [Int.mul_neg,Int.mul_neg,Int.one_mul] at this
 omega
theorem dot_sign {x y z e f g:Int} (hx:1 ≤ x) (hy:1 ≤ y) (hz:1 ≤ z) (w:Wt e f g):(0 < e + f + g ∧ 0 < dot x y z e f g) ∨ (e + f + g < 0 ∧ dot x y z e f g < 0):=by
 unfold dot
 rcases w with ⟨h1,h2,h3,h4⟩ | ⟨h1,h2,h3,h4⟩
 ·have:=mul_ge hx h1
  have:=mul_ge hy h2
  have:=mul_ge hz h3
  left;omega
 ·have:=mul_le' hx h1
  have:=mul_le' hy h2
  have:=mul_le' hz h3
  right;omega
theorem dot_ne {x y z e f g:Int} (hx:1 ≤ x) (hy:1 ≤ y) (hz:1 ≤ z) (w:Wt e f g):dot x y z e f g ≠ 0:=by
 rcases dot_sign hx hy hz w with h | h <;> omega
theorem w_seen0 {Φ:D → Prop} {ax ay aw ah bx bY bw bh cx cy cw ch px py ps:Int} {av bv cv:List Int} (ha:1 ≤ aw) (hb:1 ≤ bw) (hc:1 ≤ cw) (a:Cr ax ay aw) (b:Cr bx bY bw) (c:Cr cx cy cw) (p:Cr px py ps) (h0:hdE ax ay aw bx bY bw cx cy cw px py ps = 0) (q:Φ .non):Tl (m_seen_at [.tup [cor ax ay aw ah av,cor bx bY bw bh bv,cor cx cy cw ch cv],.tup [.int px,.int py,.int ps]]) Φ:=by
 unfold m_seen_at
 walk_at "w"
 refine w_had ha hb hc a b c p ?_
 unfold hdE at h0
 rw [h0]
 walk_at "w"
 exact q
theorem w_seen1 {Φ:D → Prop} {ax ay aw ah bx bY bw bh cx cy cw ch px py ps:Int} {av bv cv:List Int} (ha:1 ≤ aw) (hb:1 ≤ bw) (hc:1 ≤ cw) (hp:1 ≤ ps) (a:Cr ax ay aw) (b:Cr bx bY bw) (c:Cr cx cy cw) (p:Cr px py ps) (va:Cv 64 ax ay aw ah av) (vb:Cv 64 bx bY bw bh bv) (vc:Cv 64 cx cy cw ch cv) (hl:av.length ≤ 1000) (h0:hdE ax ay aw bx bY bw cx cy cw px py ps ≠ 0) {e f g B:Int} (e1:e = ow bx bY bw cx cy cw px py ps) (e2:f = ow cx cy cw ax ay aw px py ps) (e3:g = ow ax ay aw bx bY bw px py ps) (e4:B = dot ah bh ch e f g)
  (q:Φ (.tup [fra (dot aw bw cw e f g) B,.tup (vls av bv cv e f g B)])):Tl (m_seen_at [.tup [cor ax ay aw ah av,cor bx bY bw bh bv,cor cx cy cw ch cv],.tup [.int px,.int py,.int ps]]) Φ:=by
 have W:=wt_had (by omega) (by omega) (by omega) (by omega) h0
 subst e4 e1 e2 e3
 unfold m_seen_at
 walk_at "w"
 refine w_had ha hb hc a b c p ?_
 walk_at "w"
 refine w_weights a b c p ?_
 walk_at "w"
 refine w_depth va vb vc (b.ow c p) (c.ow a p) (a.ow b p) (by decide) hl (dot_ne va.f1 vb.f1 vc.f1 W) ?_
 walk_at "w"
 exact q
def Dw (r:Int):Prop:=0 ≤ r ∧ r < 2147483648
theorem w_draws {Φ:D → Prop} {cc:Int} {n:Nat} (hn:n ≤ 900) (q:∀ rs:List Int,rs.length = n → (∀ r ∈ rs,Dw r) → Φ (.lst (rs.map .int))):Tl (m__law_draws [.int cc,.int (n:Int)]) Φ:=by
 unfold m__law_draws
 walk_at "w"
 refine ⟨by simp [rangeD];omega,?_⟩
 rw [rangeD_eq,Int.toNat_natCast]
 refine w_all (fun _ y=>∃ r:Int,y = .int r ∧ Dw r) (fun x hx=>?_) fun ys ly hy=>?_
 ·obtain ⟨k,hk,rfl⟩:=List.mem_map.mp hx
  have hk:=List.mem_range.mp hk
  walk_at "w"
  exact w_mixed (by omega) fun r hr=>⟨r,rfl,hr⟩
 ·have l:ys.length = n:=by simpa using ly
  have hy':∀ y ∈ ys,∃ r:Int,y = .int r ∧ Dw r:=fun y hm=>by
   obtain ⟨i,hi,rfl⟩:=List.mem_iff_getElem.mp hm
   exact hy i _ _ (List.getElem?_eq_getElem (by omega)) (List.getElem?_eq_getElem hi)
  obtain ⟨rs,rfl,hrs⟩ : ∃ rs:List Int,ys = rs.map .int ∧ ∀ r ∈ rs,Dw r:=by
   clear l hy ly q
   induction ys with
   | nil=>exact ⟨[],rfl,fun _ h=>(List.not_mem_nil h).elim⟩
   | cons y t ih =>
    obtain ⟨r,rfl,hr⟩:=hy' y List.mem_cons_self
    obtain ⟨rs,rfl,hrs⟩:=ih fun z hz=>hy' z (List.mem_cons_of_mem _ hz)
    refine ⟨r :: rs,rfl,fun u hu=>?_⟩
    rcases List.mem_cons.mp hu with rfl | hu
    ·exact hr
    ·exact hrs u hu
  walk_at "w"
  exact q rs (by simpa using l) hrs
structure Ck (x y w h:Int):Prop where
 x:Bd x
 y:Bd y
 w:1 ≤ w ∧ w ≤ 1000000
 h:1 ≤ h ∧ h ≤ 1000000
theorem Ck.cr {x y w h:Int} (c:Ck x y w h):Cr x y w:=⟨c.x.s,c.y.s,sm6 ⟨by have:=c.w;omega,by have:=c.w;omega⟩⟩
theorem cut2 (a b:D) (r:List D):cutL (a :: b :: r) none (some 2) = [a,b]:=by
 unfold cutL cutAt
 have:min (2:Int).toNat (a :: b :: r).length = 2:=by simp
 simp only []
 rw [if_neg (by decide),this]
 rfl
theorem six {rs:List Int} (h:6 ≤ rs.length):∃ n0 n1 n2 n3 n4 n5 t,rs = n0 :: n1 :: n2 :: n3 :: n4 :: n5 :: t:=by
 rcases rs with _ | ⟨n0,_ | ⟨n1,_ | ⟨n2,_ | ⟨n3,_ | ⟨n4,_ | ⟨n5,t⟩⟩⟩⟩⟩⟩ <;> first | exact ⟨_,_,_,_,_,_,_,rfl⟩ | (exfalso;simp at h)
theorem sc_bd {s t e:Int} (hs:1 ≤ s ∧ s ≤ 8) (ht:1 ≤ t ∧ t ≤ 3) (he:0 ≤ e ∧ e ≤ s * 8):Bd (t * (e - s)):=by
 have a1:t * (-8) ≤ t * (e - s):=Int.mul_le_mul_of_nonneg_left (by omega) (by omega)
 have a2:t * (e - s) ≤ t * 64:=Int.mul_le_mul_of_nonneg_left (by omega) (by omega)
 exact ⟨by omega,by omega⟩
theorem w_corner3 {Φ:D → Prop} {rs:List Int} {many:Nat} (hm:many ≤ 3) (hl:rs.length = 6 + many) (hr:∀ r ∈ rs,Dw r) (q:∀ (x y w h:Int) (vs:List Int),Ck x y w h → vs.length = many → (∀ v ∈ vs,Bd v) → Φ (cor x y w h vs)):Tl (m__law_corner [.lst (rs.map .int),.int (many:Int)]) Φ:=by
 obtain ⟨n0,n1,n2,n3,n4,n5,t,rfl⟩:=six (rs:=rs) (by omega)
 have lt:t.length = many:=by simp at hl;omega
 have d0:=hr n0 (by simp)
 have d1:=hr n1 (by simp)
 have d2:=hr n2 (by simp)
 have d3:=hr n3 (by simp)
 have d4:=hr n4 (by simp)
 have d5:=hr n5 (by simp)
 unfold Dw at d0 d1 d2 d3 d4 d5
 unfold m__law_corner
 walk_at "w"
 rw [show cutL ((n0 :: n1 :: n2 :: n3 :: n4 :: n5 :: t).map D.int) none (some 2) = [.int n0,.int n1] from cut2 _ _ _]
 walk_at "w"
 refine w_ixL (by simp;omega) fun d hd=>?_
 have hd':∃ s:Int,d = .int s ∧ 1 ≤ s ∧ s ≤ 8:=by
  simp only [List.mem_cons,List.not_mem_nil,or_false] at hd
  rcases hd with rfl | rfl | rfl | rfl
  ·exact ⟨_,rfl,by decide⟩
  ·exact ⟨_,rfl,by decide⟩
  ·exact ⟨_,rfl,by decide⟩
  ·exact ⟨_,rfl,by decide⟩
 obtain ⟨s,rfl,hs⟩:=hd'
 walk_at "w"
 have ht:1 ≤ 1 + n0 / 16 % 3 ∧ 1 + n0 / 16 % 3 ≤ 3:=by omega
 generalize 1 + n0 / 16 % 3 = tm at *
 have hx:Bd (tm * (n0 / 64 % (s * 8 + 1) - s)):=sc_bd hs ht (by
  have:=Int.emod_nonneg (n0 / 64) (show s * 8 + 1 ≠ 0 by omega)
  have:=Int.emod_lt_of_pos (n0 / 64) (show 0 < s * 8 + 1 by omega)
  omega)
 have hy:Bd (tm * (n1 % (s * 8 + 1) - s)):=sc_bd hs ht (by
  have:=Int.emod_nonneg n1 (show s * 8 + 1 ≠ 0 by omega)
  have:=Int.emod_lt_of_pos n1 (show 0 < s * 8 + 1 by omega)
  omega)
 have hw:1 ≤ s * tm ∧ s * tm ≤ 1000000:=by
  have a1:0 < s * tm:=Int.mul_pos (by omega) (by omega)
  have a2:s * tm ≤ s * 3:=Int.mul_le_mul_of_nonneg_left (by omega) (by omega)
  omega
 generalize tm * (n0 / 64 % (s * 8 + 1) - s) = x at *
 generalize tm * (n1 % (s * 8 + 1) - s) = y at *
 generalize s * tm = w at *
 refine w_ixL (by simp;omega) fun d hd=>?_
 have hd':∃ h:Int,d = .int h ∧ 1 ≤ h ∧ h ≤ 1000000:=by
  simp only [List.mem_cons,List.not_mem_nil,or_false] at hd
  rcases hd with rfl | rfl | rfl | rfl
  ·exact ⟨_,rfl,by decide⟩
  ·exact ⟨_,rfl,by omega⟩
  ·exact ⟨_,rfl,by omega⟩
  ·exact ⟨_,rfl,by omega⟩
 obtain ⟨h,rfl,hh⟩:=hd'
 walk_at "w"
 refine ⟨by simp [rangeD];omega,?_⟩
 rw [Int.toNat_natCast]
 refine w_draw (fun k hk=>?_) fun vs lv bv=>?_
 ·walk_at "w"
  show Tl (dIx (.lst ((n0 :: n1 :: n2 :: n3 :: n4 :: n5 :: t).map .int)) _) _
  refine w_ixI (by rw [hl];omega) fun u hu=>?_
  walk_at "w"
  exact ⟨_,rfl,by omega,by omega⟩
 walk_at "w"
 refine Tl.mono (Ψ:=fun f=>∃ (x y w h:Int) (vs:List Int),Ck x y w h ∧ vs.length = many ∧ (∀ v ∈ vs,Bd v) ∧ f = Fl.nx [.im (.lst ((n0 :: n1 :: n2 :: n3 :: n4 :: n5 :: t).map .int)),.im (.int (many:Int)),.im (.int n0),.im (.int n1),.im (.int s),.im (.int tm),.im (.int x),.im (.int y),.im (.int w),.im (.int h),.im (.tup (vs.map .int))]) ?_ ?_
 ·refine w_dec (fun _=>?_) (fun _=>?_)
  ·walk_at "w"
   refine ⟨by simp [rangeD];omega,?_⟩
   rw [Int.toNat_natCast]
   refine w_draw (fun k hk=>?_) fun vs lv bv=>?_
   ·walk_at "w"
    show Tl (dIx (.lst ((n0 :: n1 :: n2 :: n3 :: n4 :: n5 :: t).map .int)) _) _
    refine w_ixI (by rw [hl];omega) fun u hu=>?_
    walk_at "w"
    exact ⟨_,rfl,by omega,by omega⟩
   walk_at "w"
   exact ⟨_,_,_,_,vs,⟨⟨by omega,by omega⟩,⟨by omega,by omega⟩,by omega,by omega⟩,lv,bv,rfl⟩
  ·walk_at "w"
   exact ⟨_,_,_,_,vs,⟨hx,hy,hw,hh⟩,lv,bv,rfl⟩
 rintro f ⟨x,y,w,h,vs,ck,lv,bv,rfl⟩
 walk_at "w"
 refine w_dec (fun _=>?_) (fun _=>?_)
 ·walk_at "w"
  exact q _ _ _ _ vs ⟨⟨by omega,by omega⟩,ck.y,by omega,ck.h⟩ lv bv
 ·walk_at "w"
  exact q _ _ _ _ vs ck lv bv
theorem cut_to {rs:List Int} {k:Nat} (h:k ≤ rs.length):cutL (rs.map .int) none (some (k:Int)) = (rs.take k).map .int:=by
 unfold cutL cutAt
 rw [List.length_map]
 simp only []
 rw [if_neg (by omega),Int.toNat_natCast,Nat.min_eq_left h,List.drop_zero,Nat.sub_zero,List.map_take]
theorem cut_mid {rs:List Int} {i k:Nat} (h0:i ≤ k) (h:k ≤ rs.length):cutL (rs.map .int) (some (i:Int)) (some (k:Int)) = ((rs.drop i).take (k - i)).map .int:=by
 unfold cutL cutAt
 rw [List.length_map]
 simp only []
 rw [if_neg (by omega),if_neg (by omega),Int.toNat_natCast,Int.toNat_natCast,Nat.min_eq_left h,Nat.min_eq_left (Nat.le_trans h0 h),List.map_take,List.map_drop]
def isC (k:Nat) (d:D):Prop:=∃ (x y w h:Int) (vs:List Int),d = cor x y w h vs ∧ Ck x y w h ∧ vs.length = k ∧ ∀ v ∈ vs,Bd v
def isT (k:Nat) (d:D):Prop:=∃ a b c:D,d = .tup [a,b,c] ∧ isC k a ∧ isC k b ∧ isC k c
def isR (n:Nat) (d:D):Prop:=∃ rs:List Int,d = .lst (rs.map .int) ∧ rs.length = n ∧ ∀ r ∈ rs,Dw r
theorem w_ixP {Φ:D → Prop} {xs:List D} {i:Int} {P:D → Prop} (h:0 ≤ i ∧ i < xs.length) (hp:∀ x ∈ xs,P x) (q:∀ x,P x → Φ x):Tl (dIx (.lst xs) (.int i)) Φ:=w_ixL h fun x hx=>q x (hp x hx)
theorem all_of {xs ys:List D} {P:D → Prop} (ly:ys.length = xs.length) (hy:∀ (i:Nat) x y,xs[i]? = some x → ys[i]? = some y → P y):∀ y ∈ ys,P y:=fun y hm=>by
 obtain ⟨i,hi,rfl⟩:=List.mem_iff_getElem.mp hm
 exact hy i _ _ (List.getElem?_eq_getElem (by omega)) (List.getElem?_eq_getElem hi)
theorem w_triangles {Φ:D → Prop} {ns:List Int} {first:Int} {most many:Nat} (hf:0 ≤ first ∧ first ≤ 100) (hmo:most ≤ 6) (hm:many ≤ 3) (q:∀ ts:List D,ts.length ≤ most → (∀ t ∈ ts,isT many t) → Φ (.lst ts)):Tl (m__law_triangles [.lst (ns.map .int),.int first,.int (most:Int),.int (many:Int)]) Φ:=by
 unfold m__law_triangles
 walk_at "w"
 refine ⟨by simp [rangeD],?_⟩
 refine w_all (fun _ y=>isR (3 * (6 + many)) y) (fun x hx=>?_) fun ys ly hy=>?_
 ·obtain ⟨k,hk,rfl⟩:=mem_range hx
  walk_at "w"
  refine w_cell_at (by omega) fun cc=>?_
  walk_at "w"
  rw [show (3 * (6 + (many:Int))) = ((3 * (6 + many):Nat):Int) by omega]
  exact w_draws (by omega) fun rs lr hr=>⟨rs,rfl,lr,hr⟩
 have hy:=all_of ly hy
 have ly:ys.length = 6:=ly
 walk_at "w"
 refine ⟨by rw [ly];decide,?_⟩
 refine w_all (fun _ y=>isC many y) (fun x hx=>?_) fun zs lz hz=>?_
 ·obtain ⟨rs,rfl,lr,hr⟩:=hy x hx
  walk_at "w"
  rw [show (6 + (many:Int)) = ((6 + many:Nat):Int) by omega,cut_to (by omega)]
  exact w_corner3 hm (by rw [List.length_take];omega) (fun r h=>hr r (List.mem_of_mem_take h)) fun x y w h vs ck lv bv=>⟨x,y,w,h,vs,rfl,ck,lv,bv⟩
 have hz:=all_of lz hz
 have lz:zs.length = 6:=lz.trans ly
 walk_at "w"
 refine w_cell_at (by omega) fun cc=>?_
 walk_at "w"
 rw [show ((most:Int) + 1) = ((most + 1:Nat):Int) by omega]
 refine w_draws (by omega) fun ds ld hd=>?_
 walk_at "w"
 refine w_ixI (by rw [ld];omega) fun d0 hd0=>?_
 have d0':Dw d0:=hd d0 hd0
 unfold Dw at d0'
 walk_at "w"
 have hn:0 ≤ d0 % ((most:Int) + 1) ∧ d0 % ((most:Int) + 1) ≤ most:=by
  have:=Int.emod_nonneg d0 (show (most:Int) + 1 ≠ 0 by omega)
  have:=Int.emod_lt_of_pos d0 (show (0:Int) < (most:Int) + 1 by omega)
  omega
 generalize d0 % ((most:Int) + 1) = m at hn ⊢
 walk_at "w"
 rw [rangeD_eq]
 refine w_upto (fun j ρ=>∃ (ts:List D) (v9 v10 v11:Cl),ts.length = j ∧ (∀ t ∈ ts,isT many t) ∧ ρ = [.im (.lst (ns.map .int)),.im (.int first),.im (.int (most:Int)),.im (.int (many:Int)),.im (.int (6 + (many:Int))),.im (.lst ys),.im (.lst zs),.im (.lst (ds.map .int)),.ow ts,v9,v10,v11]) ⟨[],_,_,_,rfl,fun _ h=>(List.not_mem_nil h).elim,rfl⟩ ?_ ?_
 ·rintro j hj ρ ⟨ts,v9,v10,v11,lt,ht,rfl⟩
  walk_at "w"
  refine w_ixI (by rw [ld];omega) fun dj hdj=>?_
  have dj':Dw dj:=hd dj hdj
  unfold Dw at dj'
  walk_at "w"
  refine w_ixP (by rw [lz];omega) hz fun A hA=>?_
  walk_at "w"
  refine w_ixP (by rw [lz];omega) hz fun B hB=>?_
  walk_at "w"
  refine w_ixP (by rw [lz];omega) hz fun C hC=>?_
  walk_at "w"
  refine Tl.mono (Ψ:=fun f=>∃ A B C:D,isC many A ∧ isC many B ∧ isC many C ∧ f = Fl.nx [.im (.lst (ns.map .int)),.im (.int first),.im (.int (most:Int)),.im (.int (many:Int)),.im (.int (6 + (many:Int))),.im (.lst ys),.im (.lst zs),.im (.lst (ds.map .int)),.ow ts,.im (.int (j:Int)),.im (.int dj),.im (.lst [A,B,C])]) ?_ ?_
  ·refine w_dec (fun _=>?_) (fun _=>?_)
   ·walk_at "w"
    refine ⟨by simp [rangeD],?_⟩
    refine w_all (fun _ y=>isC many y) (fun x hx=>?_) fun us lu hu=>?_
    ·obtain ⟨k,hk,rfl⟩:=mem_range hx
     walk_at "w"
     refine w_ixP (by rw [ly];omega) hy fun row hrow=>?_
     obtain ⟨rs,rfl,lr,hr⟩:=hrow
     have k3:k < 3:=hk
     have ka:(6 + many) * k ≤ (6 + many) * 2:=Nat.mul_le_mul_left _ (by omega)
     walk_at "w"
     rw [show (6 + (many:Int)) * (k:Int) = (((6 + many) * k:Nat):Int) by rw [Int.natCast_mul];rfl,show (((6 + many) * k:Nat):Int) + (6 + (many:Int)) = (((6 + many) * k + (6 + many):Nat):Int) by omega,cut_mid (by omega) (by omega)]
     exact w_corner3 hm (by rw [List.length_take,List.length_drop];omega) (fun r h=>hr r (List.mem_of_mem_drop (List.mem_of_mem_take h))) fun x y w h vs ck lv bv=>⟨x,y,w,h,vs,rfl,ck,lv,bv⟩
    have hu:=all_of lu hu
    have lu:us.length = 3:=lu
    walk_at "w"
    match us,lu with
    | [A,B,C],_=>exact ⟨A,B,C,hu A (by simp),hu B (by simp),hu C (by simp),rfl⟩
   ·walk_at "w"
    exact ⟨A,B,C,hA,hB,hC,rfl⟩
  rintro f ⟨A,B,C,hA,hB,hC,rfl⟩
  walk_at "w"
  refine ⟨by omega,_,rfl,ts ++ [.tup [A,B,C]],_,_,_,by simp [lt],fun t h=>?_,rfl⟩
  rcases List.mem_append.mp h with h | h
  ·exact ht t h
  ·simp only [List.mem_cons,List.not_mem_nil,or_false] at h
   subst h
   exact ⟨A,B,C,rfl,hA,hB,hC⟩
 ·rintro ρ ⟨ts,v9,v10,v11,lt,ht,rfl⟩
  walk_at "w"
  exact q ts (by omega) ht
def frD (q:Rat):D:=.tup [.int q.num,.int (q.den:Int)]
theorem fra_rat {t b:Int} (hb:b ≠ 0):fra t b = frD (Rat.divInt t b):=by
 have F:=Mt.fr_ok (t:=t) hb
 have d0:((Rat.divInt t b).den:Int) ≠ 0:=by have:=(Rat.divInt t b).den_nz;omega
 have e:=(Rat.divInt_eq_divInt_iff d0 hb).mp (Rat.num_divInt_den (Rat.divInt t b))
 have r:=(Rat.divInt t b).reduced
 have p:=(Rat.divInt t b).den_pos
 generalize Rat.divInt t b = q at *
 have low:Int.gcd q.num (q.den:Int) = 1:=by
  show Nat.gcd q.num.natAbs (q.den:Int).natAbs = 1
  rw [Int.natAbs_natCast]
  exact r
 have s:=F.same
 obtain ⟨h1,h2⟩:=Mt.fr_one F.pos F.low (show 1 ≤ (q.den:Int) by omega) low (by
  generalize Mt.frT t b = T at *
  generalize Mt.frB t b = B at *
  refine Int.eq_of_mul_eq_mul_left hb ?_
  calc b * (T * q.den) = (T * b) * q.den:=by grind
   _ = (t * q.den) * B:=by rw [s];grind
   _ = b * (q.num * B):=by rw [← e];grind)
 unfold fra frD
 rw [h1,h2]
structure Bq (k:Nat) (q:Rat):Prop where
 n:Sm k q.num
 d:Sm k (q.den:Int)
theorem Bq.mono {k m:Nat} {q:Rat} (h:Bq k q) (hk:k ≤ m):Bq m q:=⟨h.n.mono hk,h.d.mono hk⟩
theorem bq_div {t b:Int} {k:Nat} (hb:0 < b) (st:Sm k t) (sb:Sm k b):Bq k (Rat.divInt t b):=by
 have e:=fra_rat (t:=t) (b:=b) (by omega)
 unfold fra frD Mt.frT Mt.frB at e
 rw [if_neg (by omega),if_neg (by omega)] at e
 have g0:0 < (Int.gcd t b:Int):=by have:=Mt.gcd_pos' (t:=t) (b:=b) (by omega);omega
 injection e with e
 injection e with e1 e2
 injection e1 with e1
 injection e2 with e2 _
 injection e2 with e2
 refine ⟨st.le ?_,sb.le ?_⟩
 ·rw [← e1];exact Mt.fdiv_abs g0
 ·rw [← e2];exact Mt.fdiv_abs g0
theorem w_ratioQ {Φ:D → Prop} {t b:Int} {k:Nat} (hb:0 < b) (st:Sm k t) (sb:Sm k b) (hk:k ≤ 8000) (h:Bq k (Rat.divInt t b) → Φ (frD (Rat.divInt t b))):Tl (m_ratio [.int t,.int b]) Φ:=by
 refine w_ratio (by omega) sb hk ?_
 rw [fra_rat (by omega)]
 exact h (bq_div hb st sb)
theorem den1 (q:Rat):0 < (q.den:Int):=by have:=q.den_pos;omega
theorem add_div (p q:Rat):Rat.divInt (p.num * q.den + q.num * p.den) (p.den * q.den) = p + q:=by
 have hp:=den1 p
 have hq:=den1 q
 rw [← Rat.divInt_add_divInt p.num q.num (by omega) (by omega),Rat.num_divInt_den,Rat.num_divInt_den]
theorem mul_div (p q:Rat):Rat.divInt (p.num * q.num) (p.den * q.den) = p * q:=by
 rw [← Rat.divInt_mul_divInt,Rat.num_divInt_den,Rat.num_divInt_den]
theorem w_plusQ {Φ:D → Prop} {p q:Rat} {a b:Nat} (hp:Bq a p) (hq:Bq b q) (hab:a + b ≤ 4000) (h:Bq (a + b + 1) (p + q) → Φ (frD (p + q))):Tl (m_plus [frD p,frD q]) Φ:=by
 have m1:mulOk p.num q.den = true:=mulOk_s hp.n hq.d (by omega)
 have m2:mulOk q.num p.den = true:=mulOk_s hq.n hp.d (by omega)
 have m3:mulOk p.den q.den = true:=mulOk_s hp.d hq.d (by omega)
 have s1:Sm (a + b + 1) (p.num * q.den + q.num * p.den):=((hp.n.mul hq.d).add (show Sm (a + b) _ from Nat.add_comm b a ▸ hq.n.mul hp.d)).mono (by omega)
 have s2:Sm (a + b + 1) ((p.den:Int) * q.den):=(hp.d.mul hq.d).mono (by omega)
 have d0:0 < (p.den:Int) * q.den:=Int.mul_pos (den1 p) (den1 q)
 unfold m_plus frD
 walk_at "w"
 refine w_ratioQ d0 s1 s2 (by omega) ?_
 rw [add_div]
 intro hB
 walk_at "w"
 exact h hB
theorem w_prodQ {Φ:D → Prop} {p q:Rat} {a b:Nat} (hp:Bq a p) (hq:Bq b q) (hab:a + b ≤ 4000) (h:Bq (a + b) (p * q) → Φ (frD (p * q))):Tl (m_product [frD p,frD q]) Φ:=by
 have m1:mulOk p.num q.num = true:=mulOk_s hp.n hq.n (by omega)
 have m3:mulOk p.den q.den = true:=mulOk_s hp.d hq.d (by omega)
 have d0:0 < (p.den:Int) * q.den:=Int.mul_pos (den1 p) (den1 q)
 unfold m_product frD
 walk_at "w"
 refine w_ratioQ d0 (hp.n.mul hq.n) (hp.d.mul hq.d) (by omega) ?_
 rw [mul_div]
 intro hB
 walk_at "w"
 exact h hB
theorem w_ixLD {Φ:D → Prop} {xs:List D} {i:Nat} {d:D} (h:xs[i]? = some d) (q:Φ d):Tl (dIx (.lst xs) (.int (i:Int))) Φ:=by
 show Tl (ofO (at_ xs (i:Int))) Φ
 rw [at_nat,h]
 exact tl_ok q
theorem w_invE {α:Type} {Φ:Fl → Prop} {g:MG} {k:MS} {ρ:Ev} {enc:α → D} {l:List α} (I:List α → Ev → Prop) (h0:I [] ρ) (h:∀ p a r,p ++ a :: r = l → ∀ ρ,I p ρ → Tl (g (enc a) ρ) fun ρ1=>Tl (k ρ1) fun f=>∃ ρ2,f = .nx ρ2 ∧ I (p ++ [a]) ρ2) (hd:∀ ρ,I l ρ → Φ (.nx ρ)):Tl (forGo g k (l.map enc) ρ) Φ:=by
 have key:∀ (r p:List α),p ++ r = l → ∀ ρ,I p ρ → Tl (forGo g k (r.map enc) ρ) Φ:=by
  intro r
  induction r with
  | nil =>
   intro p e ρ i
   rw [List.append_nil] at e
   exact w_f0 (hd ρ (e ▸ i))
  | cons a r ih =>
   intro p e ρ i
   rw [List.map_cons]
   refine w_f1 ((h p a r e ρ i).mono fun ρ1 t=>t.mono fun f ⟨ρ2,e2,i2⟩=>?_)
   subst e2
   exact ih (p ++ [a]) (by rw [List.append_assoc];exact e) ρ2 i2
 exact key l [] rfl ρ h0
theorem w_invC {α:Type} {Φ:Fl → Prop} {g:MG} {k:MS} {ρ:Ev} {enc:α → D} {l:List α} (I:List α → Ev → Prop) (h0:I [] ρ) (h:∀ p a r,p ++ a :: r = l → ∀ ρ,I p ρ → Tl (g (enc a) ρ) fun ρ1=>Tl (k ρ1) fun f=>∃ ρ2,(f = .nx ρ2 ∨ f = .ct ρ2) ∧ I (p ++ [a]) ρ2) (hd:∀ ρ,I l ρ → Φ (.nx ρ)):Tl (forGo g k (l.map enc) ρ) Φ:=by
 have key:∀ (r p:List α),p ++ r = l → ∀ ρ,I p ρ → Tl (forGo g k (r.map enc) ρ) Φ:=by
  intro r
  induction r with
  | nil =>
   intro p e ρ i
   rw [List.append_nil] at e
   exact w_f0 (hd ρ (e ▸ i))
  | cons a r ih =>
   intro p e ρ i
   rw [List.map_cons]
   refine w_f1 ((h p a r e ρ i).mono fun ρ1 t=>t.mono fun f ⟨ρ2,e2,i2⟩=>?_)
   rcases e2 with rfl | rfl
   ·exact ih (p ++ [a]) (by rw [List.append_assoc];exact e) ρ2 i2
   ·exact ih (p ++ [a]) (by rw [List.append_assoc];exact e) ρ2 i2
 exact key l [] rfl ρ h0
structure Sg where
 d:D
 gl:Bool
 q:Rat
 v:D
 own:Rat
 part:Rat
 col:Rat
 k:Int
def insR (acc:List Sg) (s:Sg):List Sg:=acc.takeWhile (fun r=>!decide (s.q < r.q)) ++ s :: acc.dropWhile (fun r=>!decide (s.q < r.q))
def insL (acc:List Sg) (s:Sg):List Sg:=acc.take (acc.filter fun l=>decide (s.q < l.q)).length ++ s :: acc.drop (acc.filter fun l=>decide (s.q < l.q)).length
def Asc (l:List Sg):Prop:=l.Pairwise fun a b=>a.q ≤ b.q
theorem insR_nil (s:Sg):insR [] s = [s]:=rfl
theorem insR_lt {a:Sg} {r:List Sg} {s:Sg} (h:s.q < a.q):insR (a :: r) s = s :: a :: r:=by
 unfold insR
 rw [List.takeWhile_cons,List.dropWhile_cons,decide_eq_true h]
 rfl
theorem insR_ge {a:Sg} {r:List Sg} {s:Sg} (h:¬ s.q < a.q):insR (a :: r) s = a :: insR r s:=by
 unfold insR
 rw [List.takeWhile_cons,List.dropWhile_cons,decide_eq_false h]
 rfl
theorem mem_insR {x s:Sg}:∀ {l:List Sg},x ∈ insR l s ↔ x = s ∨ x ∈ l
 | []=>by simp [insR_nil]
 | a :: r=>by
  by_cases h:s.q < a.q
  ·rw [insR_lt h,List.mem_cons]
  ·rw [insR_ge h,List.mem_cons,mem_insR (l:=r),List.mem_cons]
   constructor
   ·rintro (z | z | z) <;> simp [z]
   ·rintro (z | z | z) <;> simp [z]
theorem asc_insR {s:Sg}:∀ {l:List Sg},Asc l → Asc (insR l s)
 | [],_=>by rw [insR_nil];exact List.pairwise_singleton _ _
 | a :: r,h=>by
  have h':=List.pairwise_cons.mp h
  by_cases c:s.q < a.q
  ·rw [insR_lt c]
   refine List.pairwise_cons.mpr ⟨fun x hx=>?_,h⟩
   rcases List.mem_cons.mp hx with rfl | hx
   ·exact Rat.le_of_lt c
   ·exact Rat.le_trans (Rat.le_of_lt c) (h'.1 x hx)
  ·rw [insR_ge c]
   refine List.pairwise_cons.mpr ⟨fun x hx=>?_,asc_insR h'.2⟩
   rcases mem_insR.mp hx with rfl | hx
   ·exact Rat.not_lt.mp c
   ·exact h'.1 x hx
theorem filter_insR (P:Sg → Bool) {s:Sg}:∀ {l:List Sg},Asc l → (insR l s).filter P = if P s then insR (l.filter P) s else l.filter P
 | [],_=>by rw [insR_nil,List.filter_cons];rfl
 | a :: r,h=>by
  have h':=List.pairwise_cons.mp h
  by_cases c:s.q < a.q
  ·rw [insR_lt c,List.filter_cons]
   by_cases hs:P s = true
   ·rw [if_pos hs,if_pos hs]
    have key:∀ m:List Sg,(∀ x ∈ m,s.q < x.q) → insR m s = s :: m:=by
     intro m hm
     cases m with
     | nil=>rfl
     | cons b t=>exact insR_lt (hm b List.mem_cons_self)
    rw [key]
    intro x hx
    have hx:=(List.mem_filter.mp hx).1
    rcases List.mem_cons.mp hx with rfl | hx
    ·exact c
    ·exact Std.lt_of_lt_of_le c (h'.1 x hx)
   ·rw [if_neg hs,if_neg hs]
  ·rw [insR_ge c,List.filter_cons,filter_insR P h'.2,List.filter_cons]
   by_cases ha:P a = true
   ·rw [if_pos ha,if_pos ha]
    by_cases hs:P s = true
    ·rw [if_pos hs,if_pos hs,insR_ge c]
    ·rw [if_neg hs,if_neg hs]
   ·rw [if_neg ha,if_neg ha]
def sortR (l:List Sg):List Sg:=l.foldl insR []
theorem sortR_snoc (l:List Sg) (s:Sg):sortR (l ++ [s]) = insR (sortR l) s:=by unfold sortR;rw [List.foldl_append];rfl
theorem snoc_ind {α:Type} {M:List α → Prop} (h0:M []) (h1:∀ l a,M l → M (l ++ [a])):∀ l,M l:=by
 intro l
 have key:∀ r:List α,M r.reverse:=by
  intro r
  induction r with
  | nil=>exact h0
  | cons a r ih=>rw [List.reverse_cons];exact h1 _ _ ih
 have:=key l.reverse
 rwa [List.reverse_reverse] at this
theorem asc_sortR (l:List Sg):Asc (sortR l):=by
 refine snoc_ind (M:=fun l=>Asc (sortR l)) List.Pairwise.nil (fun l a ih=>?_) l
 rw [sortR_snoc]
 exact asc_insR ih
theorem filter_sortR (P:Sg → Bool) (l:List Sg):(sortR l).filter P = sortR (l.filter P):=by
 refine snoc_ind (M:=fun l=>(sortR l).filter P = sortR (l.filter P)) rfl (fun l a ih=>?_) l
 rw [sortR_snoc,filter_insR P (asc_sortR l),ih,List.filter_append]
 by_cases ha:P a = true
 ·rw [if_pos ha,List.filter_cons,if_pos ha,List.filter_nil,sortR_snoc]
 ·rw [if_neg ha,List.filter_cons,if_neg ha,List.filter_nil,List.append_nil]
def sortL (l:List Sg):List Sg:=l.foldl insL []
theorem sortL_snoc (l:List Sg) (s:Sg):sortL (l ++ [s]) = insL (sortL l) s:=by unfold sortL;rw [List.foldl_append];rfl
theorem asc_part {s:Sg}:∀ {l:List Sg},Asc l → ∃ a b,l = a ++ b ∧ (∀ x ∈ a,¬ s.q < x.q) ∧ (∀ x ∈ b,s.q < x.q) ∧ insR l s = a ++ s :: b
 | [],_=>⟨[],[],rfl,fun _ h=>(List.not_mem_nil h).elim,fun _ h=>(List.not_mem_nil h).elim,rfl⟩
 | c :: r,h=>by
  have h':=List.pairwise_cons.mp h
  by_cases k:s.q < c.q
  ·refine ⟨[],c :: r,rfl,fun _ h=>(List.not_mem_nil h).elim,fun x hx=>?_,insR_lt k⟩
   rcases List.mem_cons.mp hx with rfl | hx
   ·exact k
   ·exact Std.lt_of_lt_of_le k (h'.1 x hx)
  ·obtain ⟨a,b,e1,e2,e3,e4⟩:=asc_part (s:=s) h'.2
   refine ⟨c :: a,b,by rw [e1];rfl,fun x hx=>?_,e3,by rw [insR_ge k,e4];rfl⟩
   rcases List.mem_cons.mp hx with rfl | hx
   ·exact k
   ·exact e2 x hx
theorem rev_insR {l:List Sg} {s:Sg} (h:Asc l):(insR l s).reverse = insL l.reverse s:=by
 obtain ⟨a,b,rfl,e2,e3,e4⟩:=asc_part (s:=s) h
 rw [e4]
 unfold insL
 have f:((a ++ b).reverse.filter fun l=>decide (s.q < l.q)) = b.reverse:=by
  rw [List.reverse_append,List.filter_append]
  have f1:(b.reverse.filter fun l=>decide (s.q < l.q)) = b.reverse:=List.filter_eq_self.mpr fun x hx=>decide_eq_true (e3 x (List.mem_reverse.mp hx))
  have f2:(a.reverse.filter fun l=>decide (s.q < l.q)) = []:=List.filter_eq_nil_iff.mpr fun x hx=>by
   rw [decide_eq_true_eq]
   exact e2 x (List.mem_reverse.mp hx)
  rw [f1,f2,List.append_nil]
 rw [f,List.reverse_append (as:=a) (bs:=b),List.take_left,List.drop_left]
 simp
theorem rev_sortR (l:List Sg):(sortR l).reverse = sortL l:=by
 refine snoc_ind (M:=fun l=>(sortR l).reverse = sortL l) rfl (fun l a ih=>?_) l
 rw [sortR_snoc,rev_insR (asc_sortR l),ih,sortL_snoc]
def nearS (n:Option Sg) (s:Sg):Option Sg:=if s.gl = true then n else match n with
  | none=>some s
  | some m=>if s.q < m.q then some s else some m
def near (l:List Sg):Option Sg:=l.foldl nearS none
theorem near_snoc (l:List Sg) (s:Sg):near (l ++ [s]) = nearS (near l) s:=by unfold near;rw [List.foldl_append];rfl
theorem head_insR {l:List Sg} {s:Sg}:(insR l s).head? = some (match l.head? with
  | none=>s
  | some m=>if s.q < m.q then s else m):=by
 cases l with
 | nil=>rfl
 | cons a r =>
  by_cases h:s.q < a.q
  ·rw [insR_lt h];show some s = some (if s.q < a.q then s else a);rw [if_pos h]
  ·rw [insR_ge h];show some a = some (if s.q < a.q then s else a);rw [if_neg h]
theorem near_eq (l:List Sg):near l = ((sortR l).filter fun s=>!s.gl).head?:=by
 rw [filter_sortR]
 refine snoc_ind (M:=fun l=>near l = (sortR (l.filter fun s=>!s.gl)).head?) rfl (fun l s ih=>?_) l
 rw [near_snoc,List.filter_append]
 unfold nearS
 cases hs:s.gl with
 | true =>
  rw [if_pos rfl,List.filter_cons,if_neg (by rw [hs];decide),List.filter_nil,List.append_nil]
  exact ih
 | false =>
  rw [if_neg Bool.false_ne_true,List.filter_cons,if_pos (by rw [hs];rfl),List.filter_nil,sortR_snoc,head_insR,← ih]
  cases near l with
  | none=>rfl
  | some m =>
   show (if s.q < m.q then some s else some m) = some (if s.q < m.q then s else m)
   by_cases c:s.q < m.q
   ·rw [if_pos c,if_pos c]
   ·rw [if_neg c,if_neg c]
structure GS (s:Sg):Prop where
 ob:∃ (c:Str) (ns:List Str) (vs:List D),s.d = .ins c ns vs ∧ ns.contains "is_glass" = false ∧ ns.contains "colour_at" = false ∧ (∃ f,tab_is_glass.lookup c = some f ∧ f [s.d] = .ok (.bl s.gl)) ∧ (s.gl = false → ∃ f,tab_colour_at.lookup c = some f ∧ f [s.d,s.v] = .ok (frD s.own))
 pt:s.gl = true → dFld objs "part" s.d = .ok (frD s.part) ∧ dFld objs "colour" s.d = .ok (frD s.col)
 bq:Bq 300 s.q
 bo:Bq 300 s.own
 bp:Bq 40 s.part
 bc:Bq 40 s.col
def seeD:Option Sg → D
 | none=>.non
 | some s=>.tup [frD s.q,s.v]
structure Seen (p d:D) (o:Option Sg):Prop where
 tri:∃ T,dFld objs "triangle" d = .ok T ∧ m_seen_at [T,p] = .ok (seeD o)
 ok:∀ s,o = some s → s.d = d ∧ GS s
abbrev encS (s:Sg):D:=.tup [s.d,frD s.q,s.v]
abbrev encR (s:Sg):D:=.tup [frD s.q,.int s.k,s.d,s.v]
abbrev DO:=D × Option Sg
def sgts (L:List DO):List Sg:=L.filterMap (·.2)
theorem sgts_snoc (L:List DO) (y:DO):sgts (L ++ [y]) = sgts L ++ y.2.toList:=by
 unfold sgts
 rw [List.filterMap_append,List.filterMap_cons,List.filterMap_nil]
 cases y.2 <;> rfl
theorem sgts_len (L:List DO):(sgts L).length ≤ L.length:=List.length_filterMap_le _ _
theorem sgts_ok {p:D} {L:List DO} (h:∀ y ∈ L,Seen p y.1 y.2):∀ s ∈ sgts L,GS s:=fun s hs=>by
 obtain ⟨y,hy,e⟩:=List.mem_filterMap.mp hs
 exact ((h y hy).ok s e).2
theorem w_meth {Φ:D → Prop} {tab:List (Str × (List D → Res D))} {m:Str} {o:ME} {a:MA} {ρ:Ev} (h:Tl (o ρ) fun d=>∃ (c:Str) (ns:List Str) (vs:List D) (f:List D → Res D),d = .ins c ns vs ∧ ns.contains m = false ∧ tab.lookup c = some f ∧ Tl (a ρ) fun ds=>Tl (f (.ins c ns vs :: ds)) Φ):Tl (meth tab m o a ρ) Φ:=by
 obtain ⟨d,e1,c,ns,vs,f,rfl,hn,ht,ds,e2,q⟩:=h
 unfold meth
 rw [e1]
 show Tl (if ns.contains m = true then .bad else match tab.lookup c with
  | some f=>(a ρ).bind fun ds=>f (.ins c ns vs :: ds)
  | none=>.bad) Φ
 rw [hn,if_neg Bool.false_ne_true,ht]
 show Tl ((a ρ).bind fun ds=>f (.ins c ns vs :: ds)) Φ
 rw [e2]
 exact q
theorem w_isg {Φ:D → Prop} {s:Sg} {o:ME} {ρ:Ev} (g:GS s) (ho:o ρ = .ok s.d) (q:Φ (.bl s.gl)):Tl (meth tab_is_glass "is_glass" o anil ρ) Φ:=by
 obtain ⟨c,ns,vs,e,n1,n2,⟨f,l1,f1⟩,_⟩:=g.ob
 refine w_meth ⟨_,ho,c,ns,vs,f,e,n1,l1,?_⟩
 refine tl_of (x:=[]) rfl ?_
 rw [← e]
 exact tl_of f1 q
theorem w_cat {Φ:D → Prop} {s:Sg} {o:ME} {a:MA} {ρ:Ev} (g:GS s) (h:s.gl = false) (ho:o ρ = .ok s.d) (ha:a ρ = .ok [s.v]) (q:Φ (frD s.own)):Tl (meth tab_colour_at "colour_at" o a ρ) Φ:=by
 obtain ⟨c,ns,vs,e,n1,n2,_,z⟩:=g.ob
 obtain ⟨f,l1,f1⟩:=z h
 refine w_meth ⟨_,ho,c,ns,vs,f,e,n2,l1,?_⟩
 refine tl_of ha ?_
 rw [← e]
 exact tl_of f1 q
theorem w_sightsat {Φ:D → Prop} {p:D} {L:List DO} (hL:∀ y ∈ L,Seen p y.1 y.2) (hl:L.length ≤ 1000) (q:Φ (.lst ((sgts L).map encS))):Tl (m_sights_at [.lst (L.map (·.1)),p]) Φ:=by
 unfold m_sights_at
 walk_at "w"
 refine w_invE (enc:=fun y:DO=>y.1) (fun pre ρ=>∃ v3 v4:Cl,ρ = [.im (.lst (L.map (·.1))),.im p,.ow ((sgts pre).map encS),v3,v4]) ⟨_,_,rfl⟩ ?_ ?_
 ·rintro pre y r e ρ ⟨v3,v4,rfl⟩
  have hy:y ∈ L:=by rw [← e];simp
  have hlen:pre.length < L.length:=by rw [← e];simp
  obtain ⟨⟨T,t1,t2⟩,ok⟩:=hL y hy
  walk_at "w"
  refine tl_of t1 ?_
  walk_at "w"
  refine tl_of t2 ?_
  rw [sgts_snoc]
  cases ho:y.2 with
  | none =>
   show Tl _ _
   walk_at "w"
   rw [show (none:Option Sg).toList = [] from rfl,List.append_nil]
   exact ⟨_,rfl,_,_,rfl⟩
  | some s =>
   obtain ⟨e1,g⟩:=ok s ho
   unfold seeD
   walk_at "w"
   have:=sgts_len pre
   refine ⟨by rw [List.length_map];omega,?_⟩
   rw [List.map_append,← e1]
   exact ⟨_,rfl,_,_,rfl⟩
 ·rintro ρ ⟨v3,v4,rfl⟩
  walk_at "w"
  exact q
theorem w_underQ {Φ:D → Prop} {a b:Rat} (ha:Bq 300 a) (hb:Bq 300 b) (h:Φ (.bl (decide (a < b)))):Tl (m_under [frD a,frD b]) Φ:=by
 have m1:mulOk a.num b.den = true:=mulOk_s ha.n hb.d (by decide)
 have m2:mulOk b.num a.den = true:=mulOk_s hb.n ha.d (by decide)
 unfold m_under frD
 walk_at "w"
 have e:decide (a.num * (b.den:Int) < b.num * (a.den:Int)) = decide (a < b):=decide_eq_decide.mpr (Rat.lt_iff a b).symm
 rw [e]
 exact h
theorem w_lessQ {Φ:D → Prop} {a b:Rat} (ha:Bq 300 a) (hb:Bq 300 b) (h:Φ (.bl (decide (a < b)))):Tl (m__law_less [frD a,frD b]) Φ:=by
 have m1:mulOk a.num b.den = true:=mulOk_s ha.n hb.d (by decide)
 have m2:mulOk b.num a.den = true:=mulOk_s hb.n ha.d (by decide)
 unfold m__law_less frD
 walk_at "w"
 have e:decide (a.num * (b.den:Int) < b.num * (a.den:Int)) = decide (a < b):=decide_eq_decide.mpr (Rat.lt_iff a b).symm
 rw [e]
 exact h
def optS:Option Sg → D
 | none=>.non
 | some s=>encS s
theorem w_nearest {Φ:D → Prop} {l:List Sg} (hl:∀ s ∈ l,GS s) (q:Φ (optS (near l))):Tl (m_nearest_of [.lst (l.map encS)]) Φ:=by
 unfold m_nearest_of
 walk_at "w"
 refine w_invC (enc:=encS) (fun pre ρ=>∃ v2:Cl,(∀ s,near pre = some s → s ∈ pre) ∧ ρ = [.im (.lst (l.map encS)),.im (optS (near pre)),v2]) ⟨.no,(fun s h=>by cases h),rfl⟩ ?_ ?_
 ·rintro pre s r e ρ ⟨v2,hm,rfl⟩
  have hs:s ∈ l:=by rw [← e];simp
  have gs:=hl s hs
  have bs:=gs.bq
  have hm':∀ t,nearS (near pre) s = some t → t ∈ pre ++ [s]:=by
   intro t ht
   unfold nearS at ht
   by_cases hg:s.gl = true
   ·rw [if_pos hg] at ht
    exact List.mem_append_left _ (hm t ht)
   ·rw [if_neg hg] at ht
    cases hn:near pre with
    | none=>rw [hn] at ht;cases ht;simp
    | some m =>
     rw [hn] at ht
     have ht:(if s.q < m.q then some s else some m) = some t:=ht
     by_cases c:s.q < m.q
     ·rw [if_pos c] at ht;cases ht;simp
     ·rw [if_neg c] at ht;cases ht;exact List.mem_append_left _ (hm _ hn)
  rw [near_snoc]
  walk_at "w"
  refine w_isg gs rfl ?_
  walk_at "w"
  cases hg:s.gl with
  | true =>
   walk_at "w"
   have e2:nearS (near pre) s = near pre:=by unfold nearS;rw [if_pos hg]
   rw [e2] at hm' ⊢
   exact ⟨_,.inr rfl,_,hm',rfl⟩
  | false =>
   walk_at "w"
   cases hn:near pre with
   | none =>
    have e2:nearS none s = some s:=by unfold nearS;rw [if_neg (by rw [hg];exact Bool.false_ne_true)]
    rw [hn,e2] at hm'
    rw [e2]
    show Tl _ _
    unfold optS
    walk_at "w"
    exact ⟨_,.inl rfl,_,hm',rfl⟩
   | some m =>
    have gm:=hl m (by rw [← e];exact List.mem_append_left _ (hm _ hn))
    rw [hn] at hm'
    have e2:nearS (some m) s = if s.q < m.q then some s else some m:=by unfold nearS;rw [if_neg (by rw [hg];exact Bool.false_ne_true)]
    unfold optS
    walk_at "w"
    refine w_underQ bs gm.bq ?_
    walk_at "w"
    refine w_dec (fun c=>?_) (fun c=>?_)
    ·rw [e2,if_pos c] at hm' ⊢
     walk_at "w"
     exact ⟨_,.inl rfl,_,hm',rfl⟩
    ·rw [e2,if_neg c] at hm' ⊢
     walk_at "w"
     exact ⟨_,.inl rfl,_,hm',rfl⟩
 ·rintro ρ ⟨v2,hm,rfl⟩
  walk_at "w"
  exact q
theorem w_ins {Φ:Fl → Prop} {i:Nat} {k e:ME} {ρ:Ev} {xs:List D} (hx:ρ[i]? = some (.ow xs)) (h:Tl (k ρ) fun u=>∃ j:Nat,u = .int (j:Int) ∧ j ≤ xs.length ∧ xs.length < 1000000 ∧ Tl (e ρ) fun d=>Φ (.nx (ρ.set i (.ow (xs.take j ++ d :: xs.drop j))))):Tl (insO i k e ρ) Φ:=by
 obtain ⟨u,e1,j,rfl,h1,h2,d,e2,q⟩:=h
 unfold insO
 rw [hx]
 show Tl ((k ρ).bind _) Φ
 rw [e1]
 show Tl ((e ρ).bind fun d=>if (0 ≤ (j:Int) ∧ (j:Int) ≤ xs.length) ∧ xs.length < LIM then .ok (.nx (ρ.set i (.ow (xs.take (j:Int).toNat ++ d :: xs.drop (j:Int).toNat)))) else .bad) Φ
 rw [e2]
 show Tl (if (0 ≤ (j:Int) ∧ (j:Int) ≤ xs.length) ∧ xs.length < LIM then .ok (.nx (ρ.set i (.ow (xs.take (j:Int).toNat ++ d :: xs.drop (j:Int).toNat)))) else .bad) Φ
 rw [if_pos ⟨by omega,h2⟩,Int.toNat_natCast]
 exact tl_ok q
theorem w_filtQ {α:Type} {Φ:List D → Prop} {g:MG} {t:MB} {e:ME} {ρ:Ev} {enc:α → D} (P:α → Bool):∀ {l:List α},(∀ a ∈ l,Tl (g (enc a) ρ) fun ρ1=>Tl (t ρ1) fun b=>b = P a ∧ Tl (e ρ1) fun y=>y = enc a) → Φ ((l.filter P).map enc) → Tl (compGo g t e ρ (l.map enc)) Φ:=by
 intro l h q
 have key:∀ l:List α,(∀ a ∈ l,Tl (g (enc a) ρ) fun ρ1=>Tl (t ρ1) fun b=>b = P a ∧ Tl (e ρ1) fun y=>y = enc a) → compGo g t e ρ (l.map enc) = .ok ((l.filter P).map enc):=by
  intro l
  induction l with
  | nil=>exact fun _=>rfl
  | cons a r ih =>
   intro h
   obtain ⟨ρ1,e1,b,e2,hb,y,e3,rfl⟩:=h a List.mem_cons_self
   have z:=ih fun c hc=>h c (List.mem_cons_of_mem _ hc)
   rw [List.map_cons,compGo_cons,e1,ok_bind,e2,ok_bind,List.filter_cons]
   by_cases c:P a = true
   ·rw [hb,if_pos c,if_pos c,e3,ok_bind,z];rfl
   ·rw [hb,if_neg c,if_neg c,z]
 exact tl_of (key l h) q
def overP (n:Option Sg) (s:Sg):Bool:=s.gl && (match n with
 | none=>true
 | some m=>decide (s.q < m.q))
def lay (n:Option Sg) (l:List Sg):List Sg:=sortL (l.filter (overP n))
theorem lay_snoc (n:Option Sg) (l:List Sg) (s:Sg):lay n (l ++ [s]) = if overP n s = true then insL (lay n l) s else lay n l:=by
 unfold lay
 rw [List.filter_append,List.filter_cons,List.filter_nil]
 by_cases h:overP n s = true
 ·rw [if_pos h,if_pos h,sortL_snoc]
 ·rw [if_neg h,if_neg h,List.append_nil]
theorem mem_insL {x s:Sg} {l:List Sg} (h:x ∈ insL l s):x = s ∨ x ∈ l:=by
 unfold insL at h
 rcases List.mem_append.mp h with h | h
 ·exact .inr (List.mem_of_mem_take h)
 ·rcases List.mem_cons.mp h with h | h
  ·exact .inl h
  ·exact .inr (List.mem_of_mem_drop h)
theorem mem_lay {n:Option Sg} {x:Sg} {l:List Sg}:x ∈ lay n l → x ∈ l ∧ overP n x = true:=by
 refine snoc_ind (M:=fun l=>x ∈ lay n l → x ∈ l ∧ overP n x = true) (fun h=>by cases h) (fun l s ih h=>?_) l
 rw [lay_snoc] at h
 by_cases c:overP n s = true
 ·rw [if_pos c] at h
  rcases mem_insL h with rfl | h
  ·exact ⟨by simp,c⟩
  ·exact ⟨List.mem_append_left _ (ih h).1,(ih h).2⟩
 ·rw [if_neg c] at h
  exact ⟨List.mem_append_left _ (ih h).1,(ih h).2⟩
theorem len_insL (l:List Sg) (s:Sg):(insL l s).length = l.length + 1:=by
 unfold insL
 have:=List.length_filter_le (fun t:Sg=>decide (s.q < t.q)) l
 simp
 omega
theorem len_lay (n:Option Sg) (l:List Sg):(lay n l).length ≤ l.length:=by
 refine snoc_ind (M:=fun l=>(lay n l).length ≤ l.length) (Nat.le_refl _) (fun l s ih=>?_) l
 rw [lay_snoc,List.length_append,List.length_singleton]
 by_cases c:overP n s = true
 ·rw [if_pos c,len_insL];omega
 ·rw [if_neg c];omega
theorem w_layers {Φ:D → Prop} {n:Option Sg} {l:List Sg} (hn:∀ m,n = some m → GS m) (hl:∀ s ∈ l,GS s) (hs:l.length ≤ 1000) (q:Φ (.lst ((lay n l).map encS))):Tl (m_layers_over [optS n,.lst (l.map encS)]) Φ:=by
 unfold m_layers_over
 walk_at "w"
 refine w_invE (enc:=encS) (fun pre ρ=>∃ v3 v4:Cl,ρ = [.im (optS n),.im (.lst (l.map encS)),.ow ((lay n pre).map encS),v3,v4]) ⟨_,_,rfl⟩ ?_ ?_
 ·rintro pre s r e ρ ⟨v3,v4,rfl⟩
  have hm:s ∈ l:=by rw [← e];simp
  have hlen:pre.length < l.length:=by rw [← e];simp
  have gs:=hl s hm
  have gp:∀ x ∈ lay n pre,GS x:=fun x hx=>hl x (by rw [← e];exact List.mem_append_left _ (mem_lay hx).1)
  have ll:=len_lay n pre
  have tail:overP n s = true → ∀ v4:Cl,Tl ((sq (st 4 (pk 2 (on bLen (acons (comp (iv (v 2)) 1 [3] (gN 0) (trb (on m_under (acons (o2 dIx (v 1) (c (.int 1))) (acons (o2 dIx (v 0) (c (.int 1))) anil)))) (v 0)) anil)))) (insO 2 (v 4) (v 3))) [.im (optS n),.im (.lst (l.map encS)),.ow ((lay n pre).map encS),.im (encS s),v4]) fun f=>∃ ρ2,f = .nx ρ2 ∧ ∃ v3 v4:Cl,ρ2 = [.im (optS n),.im (.lst (l.map encS)),.ow ((lay n (pre ++ [s])).map encS),v3,v4]:=by
   intro ho v4
   rw [lay_snoc,if_pos ho]
   walk_at "w"
   refine ⟨by rw [List.length_map];omega,?_⟩
   refine w_filtQ (fun t:Sg=>decide (s.q < t.q)) (fun t ht=>?_) ?_
   ·walk_at "w"
    refine w_underQ gs.bq (gp t ht).bq ?_
    walk_at "w"
    exact ⟨rfl,by walk_at "w"⟩
   walk_at "w"
   refine w_ins rfl ?_
   walk_at "w"
   have:=List.length_filter_le (fun t:Sg=>decide (s.q < t.q)) (lay n pre)
   refine ⟨((lay n pre).filter fun t=>decide (s.q < t.q)).length,by rw [List.length_map],by rw [List.length_map];exact this,by rw [List.length_map];omega,?_⟩
   walk_at "w"
   rw [← List.map_take,← List.map_drop,← List.map_cons,← List.map_append]
   exact ⟨_,rfl,_,_,rfl⟩
  have skip:overP n s = false → ∃ ρ2,Fl.nx [.im (optS n),.im (.lst (l.map encS)),.ow ((lay n pre).map encS),.im (encS s),v4] = .nx ρ2 ∧ ∃ v3 v4:Cl,ρ2 = [.im (optS n),.im (.lst (l.map encS)),.ow ((lay n (pre ++ [s])).map encS),v3,v4]:=fun ho=>by
   rw [lay_snoc,ho,if_neg Bool.false_ne_true]
   exact ⟨_,rfl,_,_,rfl⟩
  walk_at "w"
  refine w_isg gs rfl ?_
  walk_at "w"
  cases hg:s.gl with
  | false =>
   walk_at "w"
   exact skip (by unfold overP;rw [hg];rfl)
  | true =>
   cases n with
   | none =>
    unfold optS
    walk_at "w"
    have ho:overP none s = true:=by unfold overP;rw [hg];rfl
    rw [lay_snoc,if_pos ho]
    refine ⟨by rw [List.length_map];omega,?_⟩
    refine w_filtQ (fun t:Sg=>decide (s.q < t.q)) (fun t ht=>?_) ?_
    ·walk_at "w"
     refine w_underQ gs.bq (gp t ht).bq ?_
     walk_at "w"
     exact ⟨rfl,by walk_at "w"⟩
    walk_at "w"
    refine w_ins rfl ?_
    walk_at "w"
    have:=List.length_filter_le (fun t:Sg=>decide (s.q < t.q)) (lay none pre)
    refine ⟨((lay none pre).filter fun t=>decide (s.q < t.q)).length,by rw [List.length_map],by rw [List.length_map];exact this,by rw [List.length_map];omega,?_⟩
    walk_at "w"
    rw [← List.map_take,← List.map_drop,← List.map_cons,← List.map_append]
    exact ⟨_,rfl,_,_,rfl⟩
   | some m =>
    unfold optS
    walk_at "w"
    refine w_underQ gs.bq (hn m rfl).bq ?_
    walk_at "w"
    refine w_dec (fun c=>?_) (fun c=>?_)
    ·exact tail (by unfold overP;rw [hg];simp [c]) _
    ·walk_at "w"
     exact skip (by unfold overP;rw [hg];simp [c])
 ·rintro ρ ⟨v3,v4,rfl⟩
  walk_at "w"
  exact q
theorem sub_div (p q:Rat):Rat.divInt (p.num * q.den - q.num * p.den) (p.den * q.den) = p - q:=by
 have hp:=den1 p
 have hq:=den1 q
 rw [Rat.sub_eq_add_neg,← add_div p (-q),Rat.neg_num,Rat.neg_den]
 congr 1
 grind
theorem w_minusQ {Φ:D → Prop} {p q:Rat} {a b:Nat} (hp:Bq a p) (hq:Bq b q) (hab:a + b ≤ 4000) (h:Bq (a + b + 1) (p - q) → Φ (frD (p - q))):Tl (m_minus [frD p,frD q]) Φ:=by
 have m1:mulOk p.num q.den = true:=mulOk_s hp.n hq.d (by omega)
 have m2:mulOk q.num p.den = true:=mulOk_s hq.n hp.d (by omega)
 have m3:mulOk p.den q.den = true:=mulOk_s hp.d hq.d (by omega)
 have s0:Sm (a + b) (q.num * p.den):=Nat.add_comm b a ▸ hq.n.mul hp.d
 have s1:Sm (a + b + 1) (p.num * q.den - q.num * p.den):=by
  have z:=((hp.n.mul hq.d).add s0.neg).mono (show max (a + b) (a + b) + 1 ≤ a + b + 1 by omega)
  rw [← Int.sub_eq_add_neg] at z
  exact z
 have s2:Sm (a + b + 1) ((p.den:Int) * q.den):=(hp.d.mul hq.d).mono (by omega)
 have d0:0 < (p.den:Int) * q.den:=Int.mul_pos (den1 p) (den1 q)
 unfold m_minus frD
 walk_at "w"
 refine w_ratioQ d0 s1 s2 (by omega) ?_
 rw [sub_div]
 intro hB
 walk_at "w"
 exact h hB
def mixQ (s:Sg) (c:Rat):Rat:=s.part * s.col + (1 - s.part) * c
theorem bq_one:Bq 1 (1:Rat):=⟨by show (1:Int).natAbs < 2 ^ 1;decide,by show (1:Int).natAbs < 2 ^ 1;decide⟩
theorem w_laid {Φ:D → Prop} {s:Sg} {c:Rat} {B:Nat} (g:GS s) (hg:s.gl = true) (hc:Bq B c) (hB:B ≤ 3000) (q:Bq (B + 170) (mixQ s c) → Φ (frD (mixQ s c))):Tl (m_laid_over [s.d,frD c]) Φ:=by
 obtain ⟨p1,p2⟩:=g.pt hg
 unfold m_laid_over
 walk_at "w"
 refine tl_of p1 ?_
 walk_at "w"
 show Tl (m_minus [frD 1,frD s.part]) _
 refine w_minusQ bq_one g.bp (by decide) fun b1=>?_
 walk_at "w"
 refine tl_of p1 ?_
 walk_at "w"
 refine tl_of p2 ?_
 walk_at "w"
 refine w_prodQ g.bp g.bc (by decide) fun b2=>?_
 walk_at "w"
 refine w_prodQ b1 hc (by omega) fun b3=>?_
 walk_at "w"
 refine w_plusQ b2 b3 (by omega) fun b4=>?_
 walk_at "w"
 exact q (b4.mono (by omega))
def baseQ (g:Rat):Option Sg → Rat
 | none=>g
 | some m=>m.own
def layQ (l:List Sg) (c:Rat):Rat:=l.foldl (fun c s=>mixQ s c) c
def colQ (g:Rat) (l:List Sg):Rat:=layQ (lay (near l) l) (baseQ g (near l))
theorem near_mem {l:List Sg} {m:Sg} (h:near l = some m):m ∈ l ∧ m.gl = false:=by
 rw [near_eq] at h
 have z:=List.mem_of_mem_head? (by rw [h];rfl:m ∈ ((sortR l).filter fun s=>!s.gl).head?)
 rw [filter_sortR] at z
 have key:∀ k:List Sg,m ∈ sortR k → m ∈ k:=by
  intro k
  refine snoc_ind (M:=fun k=>m ∈ sortR k → m ∈ k) (fun h=>h) (fun k s ih h=>?_) k
  rw [sortR_snoc] at h
  rcases mem_insR.mp h with rfl | h
  ·simp
  ·exact List.mem_append_left _ (ih h)
 have y:=List.mem_filter.mp (key _ z)
 exact ⟨y.1,by simpa using y.2⟩
theorem over_gl {n:Option Sg} {s:Sg} (h:overP n s = true):s.gl = true:=by
 unfold overP at h
 rw [Bool.and_eq_true] at h
 exact h.1
theorem w_colourof {Φ:D → Prop} {g:Rat} {l:List Sg} (hg:Bq 300 g) (hl:∀ s ∈ l,GS s) (hs:l.length ≤ 12) (q:Bq 2500 (colQ g l) → Φ (frD (colQ g l))):Tl (m_colour_of [.lst (l.map encS),frD g]) Φ:=by
 have hb:Bq 300 (baseQ g (near l)):=by
  cases e:near l with
  | none=>exact hg
  | some m=>exact (hl m (near_mem e).1).bo
 have ll:=len_lay (near l) l
 unfold m_colour_of
 walk_at "w"
 refine w_nearest hl ?_
 have rest:∀ v4:Cl,Tl ((sq (for_ (iv (on m_layers_over (acons (v 2) (acons (v 0) anil)))) (gN 4)
  (st 3 (on m_laid_over (acons (o2 dIx (v 4) (c (.int 0))) (acons (v 3) anil)))))
  (ret (v 3))) [.im (.lst (l.map encS)),.im (frD g),.im (optS (near l)),.im (frD (baseQ g (near l))),v4]) fun f=>Tl (endOf f) Φ:=by
  intro v4
  walk_at "w"
  refine w_layers (fun m e=>hl m (near_mem e).1) hl (by omega) ?_
  walk_at "w"
  refine w_invE (enc:=encS) (fun pre ρ=>∃ v4:Cl,Bq (300 + 170 * pre.length) (layQ pre (baseQ g (near l))) ∧ ρ = [.im (.lst (l.map encS)),.im (frD g),.im (optS (near l)),.im (frD (layQ pre (baseQ g (near l)))),v4]) ⟨_,hb,rfl⟩ ?_ ?_
  ·rintro pre s r e ρ ⟨v4,B,rfl⟩
   have hm:s ∈ lay (near l) l:=by rw [← e];simp
   have hlen:pre.length < (lay (near l) l).length:=by rw [← e];simp
   have hms:=mem_lay hm
   walk_at "w"
   refine w_laid (hl s hms.1) (over_gl hms.2) B (by omega) fun B2=>?_
   have e2:layQ (pre ++ [s]) (baseQ g (near l)) = mixQ s (layQ pre (baseQ g (near l))):=by unfold layQ;rw [List.foldl_append];rfl
   rw [e2]
   refine ⟨_,rfl,_,B2.mono ?_,rfl⟩
   rw [List.length_append,List.length_singleton]
   omega
  ·rintro ρ ⟨v4,B,rfl⟩
   walk_at "w"
   exact q (B.mono (by omega))
 walk_at "w"
 refine Tl.mono (Ψ:=fun f=>f = Fl.nx [.im (.lst (l.map encS)),.im (frD g),.im (optS (near l)),.im (frD (baseQ g (near l))),.no]) ?_ ?_
 ·cases hn:near l with
  | none =>
   show Tl (if (false:Bool) = true then _ else _) _
   walk_at "w"
   rfl
  | some m =>
   have hm:=near_mem hn
   show Tl (if (true:Bool) = true then _ else _) _
   walk_at "w"
   refine w_cat (s:=m) (hl m hm.1) hm.2 rfl rfl ?_
   rfl
 ·rintro f rfl
  exact rest .no
theorem w_coloursn {Φ:D → Prop} {p:D} {g:Rat} {L:List DO} (hg:Bq 300 g) (hL:∀ y ∈ L,Seen p y.1 y.2) (hl:L.length ≤ 12) (q:Φ (frD (colQ g (sgts L)))):Tl (m_colour_seen [.lst (L.map (·.1)),p,frD g]) Φ:=by
 have:=sgts_len L
 unfold m_colour_seen
 walk_at "w"
 refine w_sightsat hL (by omega) ?_
 walk_at "w"
 refine w_colourof hg (sgts_ok hL) (by omega) fun _=>?_
 walk_at "w"
 exact q
theorem insR_at {s:Sg}:∀ {l:List Sg} {j:Nat},(∀ i,i < j → ∀ x,l[i]? = some x → ¬ s.q < x.q) → (j = l.length ∨ ∃ x,l[j]? = some x ∧ s.q < x.q) → insR l s = l.take j ++ s :: l.drop j
 | [],j,_,h=>by
  rcases h with rfl | ⟨x,e,_⟩
  ·rfl
  ·simp at e
 | a :: r,0,_,h=>by
  rcases h with h | ⟨x,e,c⟩
  ·cases h
  ·have:a = x:=by simpa using e
   subst this
   rw [insR_lt c]
   rfl
 | a :: r,j + 1,h1,h2=>by
  have c:¬ s.q < a.q:=h1 0 (Nat.zero_lt_succ j) a rfl
  rw [insR_ge c,insR_at (l:=r) (j:=j) (fun i hi x e=>h1 (i + 1) (by omega) x (by simpa using e)) (by
   rcases h2 with h2 | ⟨x,e,c⟩
   ·left;simpa using h2
   ·right;exact ⟨x,by simpa using e,c⟩)]
  rfl
theorem mem_sortR {x:Sg} {l:List Sg}:x ∈ sortR l → x ∈ l:=by
 refine snoc_ind (M:=fun k=>x ∈ sortR k → x ∈ k) (fun h=>h) (fun k s ih h=>?_) l
 rw [sortR_snoc] at h
 rcases mem_insR.mp h with rfl | h
 ·simp
 ·exact List.mem_append_left _ (ih h)
theorem len_insR (s:Sg):∀ l:List Sg,(insR l s).length = l.length + 1
 | []=>rfl
 | a :: r=>by
  by_cases c:s.q < a.q
  ·rw [insR_lt c];rfl
  ·rw [insR_ge c,List.length_cons,len_insR s r,List.length_cons]
theorem len_sortR (l:List Sg):(sortR l).length = l.length:=by
 refine snoc_ind (M:=fun l=>(sortR l).length = l.length) rfl (fun l s ih=>?_) l
 rw [sortR_snoc,len_insR,ih,List.length_append]
 rfl
theorem w_lawsights {Φ:D → Prop} {p:D} {L:List DO} (hL:∀ y ∈ L,Seen p y.1 y.2) (hk:∀ (i:Nat) (y:DO) (s:Sg),L[i]? = some y → y.2 = some s → s.k = (i:Int)) (hl:L.length ≤ 1000) (q:Φ (.lst ((sortR (sgts L)).map encR))):Tl (m__law_sights [.lst (L.map (·.1)),p]) Φ:=by
 unfold m__law_sights
 walk_at "w"
 have en:Dl.numbered 0 (L.map (·.1)) = L.zipIdx.map fun y=>D.tup [.int (y.2:Int),y.1.1]:=by
  have key:∀ (l:List DO) (k:Nat),Dl.numbered k (l.map (·.1)) = (l.zipIdx k).map fun y=>D.tup [.int (y.2:Int),y.1.1]:=by
   intro l
   induction l with
   | nil=>intro k;rfl
   | cons a r ih =>
    intro k
    rw [List.map_cons,List.zipIdx_cons,List.map_cons,← ih (k + 1)]
    rfl
  exact key L 0
 rw [en]
 refine w_invE (enc:=fun y:DO × Nat=>D.tup [.int (y.2:Int),y.1.1]) (fun pre ρ=>∃ v3 v4 v5 v6:Cl,ρ = [.im (.lst (L.map (·.1))),.im p,.ow ((sortR (sgts (pre.map (·.1)))).map encR),v3,v4,v5,v6]) ⟨_,_,_,_,rfl⟩ ?_ ?_
 ·rintro pre ⟨y,i⟩ r e ρ ⟨v3,v4,v5,v6,rfl⟩
  have hz:L.zipIdx[pre.length]? = some (y,i):=by rw [← e];simp
  have hz':L[pre.length]? = some y ∧ i = pre.length:=by
   rw [List.getElem?_zipIdx] at hz
   cases eL:L[pre.length]? with
   | none=>rw [eL] at hz;cases hz
   | some y' =>
    rw [eL] at hz
    simp at hz
    exact ⟨by rw [hz.1],hz.2.symm⟩
  obtain ⟨hz1,rfl⟩:=hz'
  have hy:y ∈ L:=List.mem_of_getElem? hz1
  obtain ⟨⟨T,t1,t2⟩,ok⟩:=hL y hy
  have hpre:∀ x ∈ sgts (pre.map (·.1)),GS x:=by
   refine sgts_ok (p:=p) fun z hzm=>hL z ?_
   obtain ⟨w,hw,rfl⟩:=List.mem_map.mp hzm
   have:w ∈ L.zipIdx:=by rw [← e];exact List.mem_append_left _ hw
   obtain ⟨w1,w2⟩:=w
   exact (List.mem_zipIdx this).2.2 ▸ List.getElem_mem _
  have hlen:pre.length < L.length:=by
   have:=congrArg List.length e
   simp at this
   omega
  have hsl:(sortR (sgts (pre.map (·.1)))).length ≤ pre.length:=by
   rw [len_sortR]
   have:=sgts_len (pre.map (·.1))
   rwa [List.length_map] at this
  walk_at "w"
  refine tl_of t1 ?_
  walk_at "w"
  refine tl_of t2 ?_
  rw [List.map_append,List.map_cons,List.map_nil,sgts_snoc]
  cases ho:y.2 with
  | none =>
   show Tl _ _
   walk_at "w"
   rw [show (none:Option Sg).toList = [] from rfl,List.append_nil]
   exact ⟨_,rfl,_,_,_,_,rfl⟩
  | some s =>
   obtain ⟨e1,g⟩:=ok s ho
   have ek:=hk _ y s hz1 ho
   rw [show (some s).toList = [s] from rfl,sortR_snoc]
   generalize hacc:sortR (sgts (pre.map (·.1))) = acc at *
   have hga:∀ x ∈ acc,GS x:=fun x hx=>hpre x (mem_sortR (hacc ▸ hx))
   unfold seeD
   walk_at "w"
   refine w_wh (fun ρ=>∃ j:Nat,j ≤ acc.length ∧ (∀ i,i < j → ∀ x,acc[i]? = some x → ¬ s.q < x.q) ∧ ρ = [.im (.lst (L.map (·.1))),.im p,.ow (acc.map encR),.im (.int (pre.length:Int)),.im y.1,.im (.tup [frD s.q,s.v]),.im (.int (j:Int))]) (fun ρ=>acc.length - absAt 6 ρ) ⟨0,Nat.zero_le _,(fun i hi=>absurd hi (Nat.not_lt_zero i)),rfl⟩ ?_ ?_
   ·refine Nat.lt_of_le_of_lt ?_ (absAt_fuel _ 3)
    show acc.length - absAt 6 _ ≤ (pre.length:Int).natAbs
    rw [Int.natAbs_natCast]
    omega
   ·rintro ρ ⟨j,hj,hno,rfl⟩
    walk_at "w"
    rw [List.length_map]
    refine w_dec (fun c=>?_) (fun c=>?_)
    ·have hj':j < acc.length:=by omega
     have hx:=List.getElem?_eq_getElem hj'
     generalize acc[j] = x at hx
     have gx:=hga x (List.mem_of_getElem? hx)
     walk_at "w"
     refine w_ixLD (d:=encR x) (by rw [List.getElem?_map,hx];rfl) ?_
     walk_at "w"
     refine w_lessQ g.bq gx.bq ?_
     walk_at "w"
     refine ⟨fun hb=>?_,fun hb=>?_⟩
     ·have hn:¬ s.q < x.q:=by simpa using hb
      walk_at "w"
      refine ⟨_,rfl,⟨j + 1,by omega,fun i hi z hz=>?_,rfl⟩,?_⟩
      ·by_cases hij:i = j
       ·subst hij;rw [hx] at hz;cases hz;exact hn
       ·exact hno i (by omega) z hz
      ·show acc.length - ((j:Int) + 1).natAbs < acc.length - (j:Int).natAbs
       omega
     ·have hn:s.q < x.q:=by simpa using hb
      rw [insR_at hno (.inr ⟨x,hx,hn⟩)]
      walk_at "w"
      refine w_ins rfl ?_
      walk_at "w"
      refine ⟨j,rfl,by rw [List.length_map];omega,by rw [List.length_map];omega,?_⟩
      walk_at "w"
      rw [← e1,← ek,← List.map_take,← List.map_drop,← List.map_cons (f:=encR) (a:=s),← List.map_append]
      exact ⟨_,rfl,_,_,_,_,rfl⟩
    ·have hj':j = acc.length:=by omega
     refine tl_ok ⟨fun hb=>?_,fun hb=>?_⟩
     ·cases hb
     ·rw [insR_at hno (.inl hj')]
      walk_at "w"
      refine w_ins rfl ?_
      walk_at "w"
      refine ⟨j,rfl,by rw [List.length_map];omega,by rw [List.length_map];omega,?_⟩
      walk_at "w"
      rw [← e1,← ek,← List.map_take,← List.map_drop,← List.map_cons (f:=encR) (a:=s),← List.map_append]
      exact ⟨_,rfl,_,_,_,_,rfl⟩
 ·rintro ρ ⟨v3,v4,v5,v6,rfl⟩
  walk_at "w"
  have e3:L.zipIdx.map (fun y:DO × Nat=>y.1) = L:=by
   apply List.ext_getElem?
   intro i
   rw [List.getElem?_map,List.getElem?_zipIdx]
   cases L[i]? <;> rfl
  rw [show L.zipIdx.map (·.1) = L from e3]
  exact q
theorem mix_div (p c x:Rat):Rat.divInt (p.num * c.num * x.den + (p.den - p.num) * x.num * c.den) (p.den * c.den * x.den) = p * c + (1 - p) * x:=by
 have hp:=den1 p
 have hc:=den1 c
 have hx:=den1 x
 have n1:(p.den:Int) * c.den ≠ 0:=Int.ne_of_gt (Int.mul_pos hp hc)
 have n2:(p.den:Int) * x.den ≠ 0:=Int.ne_of_gt (Int.mul_pos hp hx)
 have n3:(p.den:Int) * c.den * x.den ≠ 0:=Int.ne_of_gt (Int.mul_pos (Int.mul_pos hp hc) hx)
 have e1:p * c = Rat.divInt (p.num * c.num) (p.den * c.den):=(mul_div p c).symm
 have e0:1 - p = Rat.divInt (p.den - p.num) p.den:=by
  rw [← sub_div 1 p]
  show Rat.divInt (1 * (p.den:Int) - p.num * 1) (1 * (p.den:Int)) = _
  rw [Int.one_mul,Int.mul_one]
 have e2:(1 - p) * x = Rat.divInt ((p.den - p.num) * x.num) (p.den * x.den):=by
  rw [e0,← Rat.divInt_mul_divInt,Rat.num_divInt_den]
 rw [e1,e2,Rat.divInt_add_divInt _ _ n1 n2,Rat.divInt_eq_divInt_iff n3 (Int.mul_ne_zero n1 n2)]
 grind
theorem cut_one (xs:List D):cutL xs none (some 1) = xs.take 1:=by
 unfold cutL cutAt
 simp only []
 rw [if_neg (by omega),List.drop_zero]
 cases xs with
 | nil=>rfl
 | cons a r =>
  have:min (Int.toNat 1) (a :: r).length - 0 = 1:=by simp
  rw [this]
theorem w_neNil {Φ:D → Prop} {xs:List D} (h:Φ (.bl (!xs.isEmpty))):Tl (dNeNil (.lst xs) (.lst [])) Φ:=tl_ok h
theorem w_lawcol {Φ:D → Prop} {p:D} {g:Rat} {L:List DO} (hg:Bq 300 g) (hL:∀ y ∈ L,Seen p y.1 y.2) (hk:∀ (i:Nat) (y:DO) (s:Sg),L[i]? = some y → y.2 = some s → s.k = (i:Int)) (hl:L.length ≤ 12) (q:Φ (frD (colQ g (sgts L)))):Tl (m__law_colour [.lst (L.map (·.1)),p,frD g]) Φ:=by
 have hs:=sgts_ok hL
 have hsl:=sgts_len L
 unfold m__law_colour
 walk_at "w"
 refine w_lawsights hL hk (by omega) ?_
 unfold colQ at q
 have ne:=near_eq (sgts L)
 generalize sgts L = l at *
 have hr:∀ s ∈ sortR l,GS s:=fun s h=>hs s (mem_sortR h)
 have hlr:(sortR l).length ≤ 12:=by rw [len_sortR];omega
 have hb:Bq 300 (baseQ g (near l)):=by
  cases e:near l with
  | none=>exact hg
  | some m=>exact (hs m (near_mem e).1).bo
 have ll:=len_lay (near l) l
 walk_at "w"
 refine ⟨by rw [List.length_map];omega,?_⟩
 refine w_filtQ (fun s:Sg=>!s.gl) (fun s h=>?_) ?_
 ·walk_at "w"
  refine w_isg (hr s h) rfl ?_
  walk_at "w"
  exact ⟨rfl,by walk_at "w"⟩
 walk_at "w"
 rw [cut_one]
 walk_at "w"
 refine ⟨by rw [List.length_map];omega,?_⟩
 refine w_filtQ (fun s:Sg=>s.gl) (fun s h=>?_) ?_
 ·walk_at "w"
  refine w_isg (hr s h) rfl ?_
  walk_at "w"
  exact ⟨rfl,by walk_at "w"⟩
 walk_at "w"
 refine w_neNil ?_
 walk_at "w"
 refine Tl.mono (Ψ:=fun f=>∃ o:List Sg,o.reverse = lay (near l) l ∧ f = Fl.nx [.im (.lst (L.map (·.1))),.im p,.im (frD g),.im (.lst ((sortR l).map encR)),.im (.lst ((((sortR l).filter fun s=>!s.gl).map encR).take 1)),.im (frD (baseQ g (near l))),.im (.lst (o.map encR)),.no,.no,.no,.no,.no,.no,.no]) ?_ ?_
 ·have rev:∀ n,((sortR l).filter (overP n)).reverse = lay n l:=fun n=>by
   rw [filter_sortR,rev_sortR]
   rfl
  cases hn:(sortR l).filter (fun s=>!s.gl) with
  | nil =>
   rw [hn] at ne
   have ne:near l = none:=ne
   rw [ne]
   show Tl (if (false:Bool) = true then _ else _) _
   walk_at "w"
   refine ⟨(sortR l).filter (overP none),rev none,?_⟩
   have:(sortR l).filter (overP none) = (sortR l).filter fun s=>s.gl:=List.filter_congr fun s _=>by unfold overP;simp
   rw [this]
   rfl
  | cons m rest =>
   rw [hn] at ne
   have ne:near l = some m:=ne
   have hm:=near_mem ne
   have gm:=hs m hm.1
   rw [ne]
   show Tl (if (true:Bool) = true then _ else _) _
   rw [show ((m :: rest).map encR).take 1 = [encR m] from rfl]
   walk_at "w"
   refine w_cat (s:=m) gm hm.2 rfl rfl ?_
   walk_at "w"
   refine ⟨by rw [List.length_map];exact Nat.le_trans (List.length_filter_le _ _) (by omega),?_⟩
   refine w_filtQ (fun s:Sg=>decide (s.q < m.q)) (fun s h=>?_) ?_
   ·have gs:=hr s (List.mem_filter.mp h).1
    walk_at "w"
    refine w_lessQ gs.bq gm.bq ?_
    walk_at "w"
    exact ⟨rfl,by walk_at "w"⟩
   walk_at "w"
   refine ⟨(sortR l).filter (overP (some m)),rev (some m),?_⟩
   have:((sortR l).filter fun s=>s.gl).filter (fun s=>decide (s.q < m.q)) = (sortR l).filter (overP (some m)):=by
    rw [List.filter_filter]
    refine List.filter_congr fun s _=>?_
    unfold overP
    rw [Bool.and_comm]
   rw [this]
   rfl
 ·rintro f ⟨o,ho,rfl⟩
  walk_at "w"
  rw [← List.map_reverse,ho]
  refine w_invE (enc:=encR) (fun pre ρ=>∃ v7 v8 v9 v10 v11 v12 v13:Cl,Bq (300 + 170 * pre.length) (layQ pre (baseQ g (near l))) ∧ ρ = [.im (.lst (L.map (·.1))),.im p,.im (frD g),.im (.lst ((sortR l).map encR)),.im (.lst ((((sortR l).filter fun s=>!s.gl).map encR).take 1)),.im (frD (layQ pre (baseQ g (near l)))),.im (.lst (o.map encR)),v7,v8,v9,v10,v11,v12,v13]) ⟨_,_,_,_,_,_,_,hb,rfl⟩ ?_ ?_
  ·rintro pre s r e ρ ⟨v7,v8,v9,v10,v11,v12,v13,B,rfl⟩
   have hm:s ∈ lay (near l) l:=by rw [← e];simp
   have hlen:pre.length < (lay (near l) l).length:=by rw [← e];simp
   have hms:=mem_lay hm
   have gs:=hs s hms.1
   obtain ⟨p1,p2⟩:=gs.pt (over_gl hms.2)
   have e2:layQ (pre ++ [s]) (baseQ g (near l)) = mixQ s (layQ pre (baseQ g (near l))):=by unfold layQ;rw [List.foldl_append];rfl
   rw [e2]
   clear e2
   generalize layQ pre (baseQ g (near l)) = x at *
   have hB:300 + 170 * pre.length ≤ 2400:=by omega
   have hB2:300 + 170 * (pre ++ [s]).length = 300 + 170 * pre.length + 170:=by rw [List.length_append,List.length_singleton];omega
   rw [hB2]
   generalize 300 + 170 * pre.length = K at *
   have bp:=gs.bp
   have bc:=gs.bc
   have q1:=bp.n.mul bc.n
   have q2:=q1.mul B.d
   have q3:=bp.d.add bp.n.neg
   rw [← Int.sub_eq_add_neg] at q3
   have q4:=q3.mul B.n
   have q5:=q4.mul bc.d
   have q6:=bp.d.mul bc.d
   have q7:=q6.mul B.d
   have a1:=mulOk_s bp.n bc.n (by decide)
   have a2:=mulOk_s q1 B.d (by omega)
   have a3:=mulOk_s q3 B.n (by omega)
   have a4:=mulOk_s q4 bc.d (by omega)
   have a5:=mulOk_s bp.d bc.d (by decide)
   have a6:=mulOk_s q6 B.d (by omega)
   walk_at "w"
   refine tl_of p1 ?_
   walk_at "w"
   refine tl_of p2 ?_
   unfold frD
   walk_at "w"
   refine w_ratioQ (k:=K + 170) (Int.mul_pos (Int.mul_pos (den1 _) (den1 _)) (den1 _)) ((q2.add q5).mono (by omega)) (q7.mono (by omega)) (by omega) ?_
   rw [mix_div]
   intro B2
   exact ⟨_,rfl,_,_,_,_,_,_,_,B2,rfl⟩
  ·rintro ρ ⟨v7,v8,v9,v10,v11,v12,v13,B,rfl⟩
   walk_at "w"
   exact q
def rowD (w:Nat) (R:Nat → Rat):D:=.lst ((List.range w).map fun j=>frD (R j))
def patD (h w:Nat) (P:Nat → Nat → Rat):D:=.lst ((List.range h).map fun i=>rowD w (P i))
def Ct (n:Nat):Prop:=n = 1 ∨ n = 2 ∨ n = 4 ∨ n = 8 ∨ n = 16
theorem Ct.le {n:Nat} (h:Ct n):1 ≤ n ∧ n ≤ 16:=by unfold Ct at h;omega
theorem w_ninCt {Φ:D → Prop} {n:Nat} (hn:Ct n) (h:Φ (.bl false)):Tl (dNin (.int (n:Int)) (.tup [.int 1,.int 2,.int 4,.int 8,.int 16])) Φ:=by
 refine tl_of ?_ h
 rcases hn with rfl | rfl | rfl | rfl | rfl <;> rfl
theorem w_is_whole {Φ:D → Prop} {n:Int} (h:Φ (.bl true)):Tl (m_is_whole [.int n]) Φ:=by
 unfold m_is_whole
 walk_at "w"
 exact h
theorem w_is_fraction {Φ:D → Prop} {q:Rat} (h:Φ (.bl true)):Tl (m_is_fraction [frD q]) Φ:=by
 have d:=den1 q
 unfold m_is_fraction frD
 walk_at "w"
 refine w_is_whole ?_
 walk_at "w"
 refine w_is_whole ?_
 walk_at "w"
 refine w_greatest_divisorT (ns:=[q.num,(q.den:Int)]) ?_
 rw [Mt.gcdL_two,show Int.gcd q.num (q.den:Int) = 1 by show Nat.gcd q.num.natAbs (q.den:Int).natAbs = 1;rw [Int.natAbs_natCast];exact q.reduced]
 walk_at "w"
 exact h
theorem w_check_pattern {Φ:D → Prop} {h w:Nat} {P:Nat → Nat → Rat} (hh:Ct h) (hw:Ct w) (q:Φ .non):Tl (m_check_pattern [patD h w P]) Φ:=by
 have h1:=hh.le
 have w1:=hw.le
 have hp:patD h w P = .lst (rowD w (P 0) :: ((List.range (h - 1)).map fun i=>rowD w (P (i + 1)))):=by
  unfold patD
  obtain ⟨k,rfl⟩ : ∃ k,h = k + 1:=⟨h - 1,by omega⟩
  rw [List.range_succ_eq_map,List.map_cons,List.map_map]
  rfl
 unfold m_check_pattern
 unfold patD
 walk_at "w"
 rw [List.length_map,List.length_range]
 refine w_ninCt hh ?_
 walk_at "w"
 refine w_upto (fun j ρ=>∃ v1:Cl,ρ = [.im (patD h w P),v1]) ⟨_,rfl⟩ ?_ ?_
 ·rintro j hj ρ ⟨v1,rfl⟩
  unfold rowD
  walk_at "w"
  rw [List.length_map,List.length_range]
  refine w_ninCt hw ?_
  walk_at "w"
  rw [hp]
  walk_at "w"
  unfold rowD
  walk_at "w"
  rw [List.length_map,List.length_range,List.length_map,List.length_range]
  walk_at "w"
  refine ⟨by rw [List.length_map,List.length_range];omega,?_⟩
  refine w_mapP (fun _:Nat=>D.bl true) (fun k hk=>?_) ?_
  ·walk_at "w"
   exact w_is_fraction rfl
  walk_at "w"
  refine w_all_T (fun y hy=>?_) ?_
  ·obtain ⟨_,_,rfl⟩:=List.mem_map.mp hy
   rfl
  walk_at "w"
  exact ⟨_,rfl,_,rfl⟩
 ·rintro ρ ⟨v1,rfl⟩
  walk_at "w"
  exact q
theorem w_patix {Φ:D → Prop} {h w:Nat} {P:Nat → Nat → Rat} {i:Nat} (hi:i < h) (q:Φ (rowD w (P i))):Tl (dIx (patD h w P) (.int (i:Int))) Φ:=by
 unfold patD
 rw [dIx_lst,at_nat,List.getElem?_map,List.getElem?_range hi]
 exact tl_ok q
theorem w_rowix {Φ:D → Prop} {w:Nat} {R:Nat → Rat} {i:Nat} (hi:i < w) (q:Φ (frD (R i))):Tl (dIx (rowD w R) (.int (i:Int))) Φ:=by
 unfold rowD
 rw [dIx_lst,at_nat,List.getElem?_map,List.getElem?_range hi]
 exact tl_ok q
theorem fr_plain (k:Nat) (q:Rat):plain (k + 1) (frD q) = true:=by
 show plains k [.int q.num,.int (q.den:Int)] = true
 cases k <;> rfl
theorem w_are_values {Φ:D → Prop} {vs:List Int} (hl:vs.length ≤ 3) (h:Φ (.bl true)):Tl (m_are_values [.tup (vs.map .int)]) Φ:=by
 unfold m_are_values
 walk_at "w"
 rw [List.length_map]
 walk_at "w"
 refine ⟨by omega,?_⟩
 refine w_mapP (fun _:Int=>D.bl true) (fun k hk=>?_) ?_
 ·walk_at "w"
  exact w_is_whole rfl
 walk_at "w"
 refine w_all_T (fun y hy=>?_) ?_
 ·obtain ⟨_,_,rfl⟩:=List.mem_map.mp hy
  rfl
 walk_at "w"
 exact h
theorem w_is_cor {Φ:D → Prop} {x y w h:Int} {vs:List Int} (hh:1 ≤ h) (hl:vs.length ≤ 3) (q:Φ (.bl true)):Tl (m_is_corner [cor x y w h vs]) Φ:=by
 unfold m_is_corner cor
 walk_at "w"
 rw [show cutL [D.int x,D.int y,D.int w,D.int h,D.tup (List.map D.int vs)] none (some 4) = [x,y,w,h].map D.int from rfl]
 refine ⟨by show (4:Nat) ≤ _;omega,?_⟩
 refine w_mapP (fun _:Int=>D.bl true) (fun k hk=>?_) ?_
 ·walk_at "w"
  exact w_is_whole rfl
 walk_at "w"
 refine w_all_T (fun y hy=>?_) ?_
 ·obtain ⟨_,_,rfl⟩:=List.mem_map.mp hy
  rfl
 walk_at "w"
 refine w_are_values hl ?_
 walk_at "w"
 exact q
structure Tr (k:Nat) (T:D):Prop where
 ex:∃ (ax ay aw ah bx bY bw bh cx cy cw ch:Int) (av bv cv:List Int),T = .tup [cor ax ay aw ah av,cor bx bY bw bh bv,cor cx cy cw ch cv] ∧ Ck ax ay aw ah ∧ Ck bx bY bw bh ∧ Ck cx cy cw ch ∧
  av.length = k ∧ bv.length = k ∧ cv.length = k ∧ (∀ v ∈ av,Bd v) ∧ (∀ v ∈ bv,Bd v) ∧ (∀ v ∈ cv,Bd v)
theorem chk_tri {k:Nat} {T:D} (hk:k ≤ 3) (h:Tr k T):m_check_triangle [T] = .ok .non:=by
 obtain ⟨ax,ay,aw,ah,bx,bY,bw,bh,cx,cy,cw,ch,av,bv,cv,rfl,ca,cb,cc,la,lb,lc,_⟩:=h
 refine Tl.eq ?_
 unfold m_check_triangle
 walk_at "w"
 refine w_f1 ?_
 walk_at "w"
 refine w_is_cor ca.h.1 (by omega) ?_
 unfold cor
 walk_at "w"
 refine w_f1 ?_
 walk_at "w"
 refine w_is_cor cb.h.1 (by omega) ?_
 walk_at "w"
 refine w_f1 ?_
 walk_at "w"
 refine w_is_cor cc.h.1 (by omega) ?_
 walk_at "w"
 refine w_f0 ?_
 walk_at "w"
theorem chk_eye {k:Nat} {T:D} (h:Tr k T):m_check_before_eye [T] = .ok .non:=by
 obtain ⟨ax,ay,aw,ah,bx,bY,bw,bh,cx,cy,cw,ch,av,bv,cv,rfl,ca,cb,cc,la,lb,lc,_⟩:=h
 have h1:=ca.w.1
 have h2:=cb.w.1
 have h3:=cc.w.1
 refine Tl.eq ?_
 unfold m_check_before_eye cor
 walk_at "w"
 refine w_f1 ?_
 walk_at "w"
 refine w_f1 ?_
 walk_at "w"
 refine w_f1 ?_
 walk_at "w"
 refine w_f0 ?_
 walk_at "w"
theorem chk_col (q:Rat):m_check_colour [frD q] = .ok .non:=by
 refine Tl.eq ?_
 unfold m_check_colour
 walk_at "w"
 refine w_is_fraction ?_
 walk_at "w"
theorem chk_part {q:Rat} (h0:0 ≤ q.num) (h1:q.num ≤ q.den):m_check_part [frD q] = .ok .non:=by
 refine Tl.eq ?_
 unfold m_check_part
 walk_at "w"
 refine w_is_fraction ?_
 unfold frD
 walk_at "w"
theorem chk_vals {k:Nat} {T:D} {n:Int} (h:Tr k T) (hn:n ≤ k):m_check_values [T,.int n] = .ok .non:=by
 obtain ⟨ax,ay,aw,ah,bx,bY,bw,bh,cx,cy,cw,ch,av,bv,cv,rfl,ca,cb,cc,la,lb,lc,_⟩:=h
 refine Tl.eq ?_
 unfold m_check_values cor
 walk_at "w"
theorem set_new {f:Str} {d:D} {k:MSi} {ρ:Ev} {fl:Fs} {e:ME} (he:e ρ = .ok d) (hn:(fl.map (·.1)).contains f = false) (hl:fl.length < 100):iSet f e k ρ fl = k ρ (fl ++ [(f,d)]):=by
 unfold iSet
 rw [he]
 show (if (fl.map (·.1)).contains f = true ∨ 100 ≤ fl.length then Res.bad else k ρ (fl ++ [(f,d)])) = _
 rw [if_neg]
 rintro (z | z)
 ·rw [hn] at z;cases z
 ·omega
theorem drp_ok {d:D} {k:MSi} {ρ:Ev} {fl:Fs} {e:ME} (he:e ρ = .ok d):iDrp e k ρ fl = k ρ fl:=by
 unfold iDrp
 rw [he]
 rfl
theorem sup_ok {g:List D → Fs → Res Fs} {a:MA} {ds:List D} {k:MSi} {ρ:Ev} {fl fl':Fs} (ha:a ρ = .ok ds) (hg:g ds fl = .ok fl'):iSup g a k ρ fl = k ρ fl':=by
 unfold iSup
 rw [ha]
 show (g ds fl).bind _ = _
 rw [hg]
 rfl
theorem no_c:([("triangle" : Str)]:List Str).contains "colour" = false:=by decide +kernel
theorem no_pn:([("triangle" : Str)]:List Str).contains "pattern" = false:=by decide +kernel
theorem no_pt:([("triangle" : Str), "colour"]:List Str).contains "part" = false:=by decide +kernel
abbrev fsT (T:D):Fs:=[(("triangle" : Str),T)]
theorem i_thing {k:Nat} {T:D} (hk:k ≤ 3) (h:Tr k T):i_Thing [T] [] = .ok (fsT T):=by
 unfold i_Thing fnI
 rw [drp_ok (d:=.non) (chk_tri hk h),drp_ok (d:=.non) (chk_eye h),set_new (d:=T) rfl rfl (by decide)]
 rfl
theorem i_plain {k:Nat} {T:D} {q:Rat} (hk:k ≤ 3) (h:Tr k T):i_Plain [T,frD q] [] = .ok [(("triangle" : Str),T),(("colour" : Str),frD q)]:=by
 unfold i_Plain fnI
 rw [sup_ok (ds:=[T]) rfl (i_thing hk h),drp_ok (d:=.non) (chk_col q),set_new (d:=frD q) rfl no_c (by show (1:Nat) < 100;decide)]
 rfl
theorem i_shaded {k:Nat} {T:D} (hk:k ≤ 3) (h:Tr k T) (h1:1 ≤ k):i_Shaded [T] [] = .ok (fsT T):=by
 unfold i_Shaded fnI
 rw [sup_ok (ds:=[T]) rfl (i_thing hk h),drp_ok (d:=.non) (chk_vals h (by omega))]
 rfl
theorem i_glass {k:Nat} {T:D} {q r:Rat} (hk:k ≤ 3) (h:Tr k T) (h0:0 ≤ r.num) (h1:r.num ≤ r.den):i_Glass [T,frD q,frD r] [] = .ok [(("triangle" : Str),T),(("colour" : Str),frD q),(("part" : Str),frD r)]:=by
 unfold i_Glass fnI
 rw [sup_ok (ds:=[T]) rfl (i_thing hk h),drp_ok (d:=.non) (chk_col q),drp_ok (d:=.non) (chk_part h0 h1),set_new (d:=frD q) rfl no_c (by show (1:Nat) < 100;decide),set_new (d:=frD r) rfl no_pt (by show (2:Nat) < 100;decide)]
 rfl
theorem w_copied {Φ:D → Prop} {h w:Nat} {P:Nat → Nat → Rat} (hh:h ≤ 100) (q:Φ (patD h w P)):Tl (m_copied [patD h w P]) Φ:=by
 unfold m_copied patD
 walk_at "w"
 refine ⟨by rw [List.length_map,List.length_range];omega,?_⟩
 refine w_mapP (fun i:Nat=>rowD w (P i)) (fun i hi=>?_) ?_
 ·unfold rowD
  walk_at "w"
 walk_at "w"
 exact q
theorem i_patt {k h w:Nat} {T:D} {P:Nat → Nat → Rat} (hk:k ≤ 3) (ht:Tr k T) (h2:2 ≤ k) (hh:Ct h) (hw:Ct w):i_Patterned [T,patD h w P] [] = .ok [(("triangle" : Str),T),(("pattern" : Str),patD h w P)]:=by
 have h1:=hh.le
 have c1:m_check_pattern [patD h w P] = .ok .non:=Tl.eq (w_check_pattern hh hw rfl)
 have c2:m_copied [patD h w P] = .ok (patD h w P):=Tl.eq (w_copied (by omega) rfl)
 unfold i_Patterned fnI
 rw [sup_ok (ds:=[T]) rfl (i_thing hk ht),drp_ok (d:=.non) (chk_vals ht (by omega)),drp_ok (d:=.non) c1,set_new (d:=patD h w P) c2 no_pn (by show (1:Nat) < 100;decide)]
 rfl
inductive Thg:D → Prop
 | plain {k:Nat} {T:D} {q:Rat}:Tr k T → k ≤ 3 → Bq 40 q → Thg (.ins "Plain" ["triangle", "colour"] [T,frD q])
 | shaded {k:Nat} {T:D}:Tr k T → k ≤ 3 → 1 ≤ k → Thg (.ins "Shaded" ["triangle"] [T])
 | patt {k h w:Nat} {T:D} {P:Nat → Nat → Rat}:Tr k T → k ≤ 3 → 2 ≤ k → Ct h → Ct w → (∀ i,i < h → ∀ j,j < w → Bq 40 (P i j)) → Thg (.ins "Patterned" ["triangle", "pattern"] [T,patD h w P])
 | glass {k:Nat} {T:D} {q r:Rat}:Tr k T → k ≤ 3 → Bq 40 q → Bq 40 r → 0 ≤ r.num → r.num ≤ r.den → Thg (.ins "Glass" ["triangle", "colour", "part"] [T,frD q,frD r])
theorem fT1 (T q:D):dFld objs "triangle" (.ins "Plain" ["triangle", "colour"] [T,q]) = .ok T:=rfl
theorem fT2 (T:D):dFld objs "triangle" (.ins "Shaded" ["triangle"] [T]) = .ok T:=rfl
theorem fT3 (T q:D):dFld objs "triangle" (.ins "Patterned" ["triangle", "pattern"] [T,q]) = .ok T:=rfl
theorem fT4 (T q r:D):dFld objs "triangle" (.ins "Glass" ["triangle", "colour", "part"] [T,q,r]) = .ok T:=rfl
theorem fC1 (T q:D):dFld objs "colour" (.ins "Plain" ["triangle", "colour"] [T,q]) = .ok q:=rfl
theorem fC4 (T q r:D):dFld objs "colour" (.ins "Glass" ["triangle", "colour", "part"] [T,q,r]) = .ok q:=rfl
theorem fP4 (T q r:D):dFld objs "part" (.ins "Glass" ["triangle", "colour", "part"] [T,q,r]) = .ok r:=rfl
theorem fN3 (T q:D):dFld objs "pattern" (.ins "Patterned" ["triangle", "pattern"] [T,q]) = .ok q:=rfl
theorem nat_mod {x:Int} {n:Nat} (h:1 ≤ n):∃ i:Nat,x % (n:Int) = (i:Int) ∧ i < n:=by
 have a:=Int.emod_nonneg x (show (n:Int) ≠ 0 by omega)
 have b:=Int.emod_lt_of_pos x (show (0:Int) < n by omega)
 exact ⟨(x % (n:Int)).toNat,by omega,by omega⟩
theorem w_down {Φ:D → Prop} {q:Rat} {k:Nat} (hb:Bq k q) (hk:k ≤ 8000) (h:Φ (.int (q.num / (q.den:Int)))):Tl (m_down [frD q]) Φ:=by
 have d:=den1 q
 have l:=hb.d.log (show k < 9000 by omega)
 unfold m_down frD
 generalize q.num = n at *
 generalize (q.den:Int) = m at *
 walk_at "w"
 exact h
theorem w_entry {Φ:D → Prop} {h w:Nat} {P:Nat → Nat → Rat} {u v:Rat} (hh:Ct h) (hw:Ct w) (bu:Bq 300 u) (bv:Bq 300 v) (q:∀ i j,i < h → j < w → Φ (frD (P i j))):∃ i j,i < h ∧ j < w ∧ m_entry_at [patD h w P,frD u,frD v] = .ok (frD (P i j)):=by
 have h1:=hh.le
 have w1:=hw.le
 obtain ⟨i,ei,hi⟩:=nat_mod (x:=v.num / (v.den:Int)) h1.1
 obtain ⟨j,ej,hj⟩:=nat_mod (x:=u.num / (u.den:Int)) w1.1
 refine ⟨i,j,hi,hj,Tl.eq ?_⟩
 unfold m_entry_at
 walk_at "w"
 refine w_down bv (by decide) ?_
 walk_at "w"
 rw [List.length_map,List.length_range]
 walk_at "w"
 rw [ei]
 refine w_patix hi ?_
 walk_at "w"
 refine w_down bu (by decide) ?_
 walk_at "w"
 rw [List.length_map,List.length_range]
 walk_at "w"
 rw [ej]
 refine w_rowix hj ?_
 walk_at "w"
theorem sm_frd {t b:Int} {k:Nat} (hb:b ≠ 0) (st:Sm k t) (sb:Sm k b):Bq k (Rat.divInt t b):=by
 have F:=Mt.fr_ok (t:=t) hb
 have e:=fra_rat (t:=t) (b:=b) hb
 unfold fra frD at e
 injection e with e
 injection e with e1 e2
 injection e1 with e1
 injection e2 with e2 _
 injection e2 with e2
 exact ⟨e1 ▸ st.le F.np,e2 ▸ sb.le F.nq⟩
theorem tri_seen {k:Nat} {T:D} {px py ps:Int} (h:Tr k T) (hk:k ≤ 3) (cp:Cr px py ps) (hp:1 ≤ ps):m_seen_at [T,.tup [.int px,.int py,.int ps]] = .ok .non ∨
  ∃ (q:Rat) (vs:List Rat),vs.length = k ∧ Bq 300 q ∧ (∀ v ∈ vs,Bq 300 v) ∧ m_seen_at [T,.tup [.int px,.int py,.int ps]] = .ok (.tup [frD q,.tup (vs.map frD)]):=by
 obtain ⟨ax,ay,aw,ah,bx,bY,bw,bh,cx,cy,cw,ch,av,bv,cv,rfl,ca,cb,cc,la,lb,lc,va,vb,vc⟩:=h
 have sm:∀ {n:Int},1 ≤ n ∧ n ≤ 1000000 → Sm 64 n:=fun h=>Sm.of64 (by omega) (by omega)
 have fa:Cv 64 ax ay aw ah av:=⟨ca.cr.x,ca.cr.y,ca.cr.w,sm ca.h,fun v hv=>(va v hv).s,ca.h.1⟩
 have fb:Cv 64 bx bY bw bh bv:=⟨cb.cr.x,cb.cr.y,cb.cr.w,sm cb.h,fun v hv=>(vb v hv).s,cb.h.1⟩
 have fc:Cv 64 cx cy cw ch cv:=⟨cc.cr.x,cc.cr.y,cc.cr.w,sm cc.h,fun v hv=>(vc v hv).s,cc.h.1⟩
 by_cases h0:hdE ax ay aw bx bY bw cx cy cw px py ps = 0
 ·left
  exact Tl.eq (w_seen0 ca.w.1 cb.w.1 cc.w.1 ca.cr cb.cr cc.cr cp h0 rfl)
 ·right
  have W:=wt_had (by have:=ca.w;omega) (by have:=cb.w;omega) (by have:=cc.w;omega) (by omega) h0
  have se:=cb.cr.ow cc.cr cp
  have sf:=cc.cr.ow ca.cr cp
  have s3:=ca.cr.ow cb.cr cp
  have n0:=dot_ne ca.h.1 cb.h.1 cc.h.1 W
  have e:=Tl.eq (w_seen1 (Φ:=fun x=>x = _) ca.w.1 cb.w.1 cc.w.1 hp ca.cr cb.cr cc.cr cp fa fb fc (by omega) h0 rfl rfl rfl rfl rfl)
  have sB:=dot_sm fa.fh fb.fh fc.fh se sf s3
  have sT:=dot_sm fa.fw fb.fw fc.fw se sf s3
  generalize ow bx bY bw cx cy cw px py ps = e1 at *
  generalize ow cx cy cw ax ay aw px py ps = e2 at *
  generalize ow ax ay aw bx bY bw px py ps = e3 at *
  generalize hB:dot ah bh ch e1 e2 e3 = B at *
  refine ⟨Rat.divInt (dot aw bw cw e1 e2 e3) B,(av.zip (bv.zip cv)).map fun t=>Rat.divInt (dot t.1 t.2.1 t.2.2 e1 e2 e3) B,?_,(sm_frd n0 sT sB).mono (by decide),fun v hv=>?_,?_⟩
  ·rw [List.length_map,List.length_zip,List.length_zip];omega
  ·obtain ⟨t,ht,rfl⟩:=List.mem_map.mp hv
   obtain ⟨t1,t2,t3⟩:=zip3_mem ht
   exact (sm_frd n0 (dot_sm (fa.fv _ t1) (fb.fv _ t2) (fc.fv _ t3) se sf s3) sB).mono (by decide)
  ·rw [e,fra_rat n0]
   unfold vls
   rw [List.map_map]
   congr 3
   congr 1
   congr 1
   exact List.map_congr_left fun t _=>fra_rat n0
theorem seen_of {d:D} {px py ps:Int} (h:Thg d) (cp:Cr px py ps) (hp:1 ≤ ps) (K:Int):∃ o,Seen (.tup [.int px,.int py,.int ps]) d o ∧ ∀ s,o = some s → s.k = K:=by
 have b0:Bq 40 (0:Rat):=⟨by show (0:Int).natAbs < 2 ^ 40;decide,by show (1:Int).natAbs < 2 ^ 40;decide⟩
 cases h with
 | @plain k T q ht hk hq =>
  rcases tri_seen ht hk cp hp with e | ⟨z,vs,lv,bz,bv,e⟩
  ·exact ⟨none,⟨⟨T,fT1 _ _,e⟩,fun s h=>by cases h⟩,fun s h=>by cases h⟩
  ·refine ⟨some ⟨.ins "Plain" ["triangle", "colour"] [T,frD q],false,z,.tup (vs.map frD),q,0,0,K⟩,⟨⟨T,fT1 _ _,e⟩,fun s h=>?_⟩,fun s h=>by cases h;rfl⟩
   cases h
   refine ⟨rfl,⟨_,_,_,rfl,by decide +kernel,by decide +kernel,⟨m_Thing__is_glass,by rfl,rfl⟩,fun _=>⟨m_Plain__colour_at,by rfl,rfl⟩⟩,(fun h=>by cases h),bz,hq.mono (by decide),b0,b0⟩
 | @shaded k T ht hk h1 =>
  rcases tri_seen ht hk cp hp with e | ⟨z,vs,lv,bz,bv,e⟩
  ·exact ⟨none,⟨⟨T,fT2 _,e⟩,fun s h=>by cases h⟩,fun s h=>by cases h⟩
  ·cases vs with
   | nil=>simp at lv;omega
   | cons u vs =>
    refine ⟨some ⟨.ins "Shaded" ["triangle"] [T],false,z,.tup ((u :: vs).map frD),u,0,0,K⟩,⟨⟨T,fT2 _,e⟩,fun s h=>?_⟩,fun s h=>by cases h;rfl⟩
    cases h
    exact ⟨rfl,⟨_,_,_,rfl,by decide +kernel,by decide +kernel,⟨m_Thing__is_glass,by rfl,rfl⟩,fun _=>⟨m_Shaded__colour_at,by rfl,rfl⟩⟩,(fun h=>by cases h),bz,bv u List.mem_cons_self,b0,b0⟩
 | @patt k h w T P ht hk h2 hh hw hP =>
  rcases tri_seen ht hk cp hp with e | ⟨z,vs,lv,bz,bv,e⟩
  ·exact ⟨none,⟨⟨T,fT3 _ _,e⟩,fun s h=>by cases h⟩,fun s h=>by cases h⟩
  ·match vs,lv,bv,e with
   | [],lv,_,_=>simp at lv;omega
   | [_],lv,_,_=>simp at lv;omega
   | u :: v :: vs,lv,bv,e =>
    obtain ⟨i,j,hi,hj,en⟩:=w_entry (Φ:=fun _=>True) (P:=P) hh hw (bv u List.mem_cons_self) (bv v (List.mem_cons_of_mem _ List.mem_cons_self)) (fun _ _ _ _=>trivial)
    refine ⟨some ⟨.ins "Patterned" ["triangle", "pattern"] [T,patD h w P],false,z,.tup ((u :: v :: vs).map frD),P i j,0,0,K⟩,⟨⟨T,fT3 _ _,e⟩,fun s h=>?_⟩,fun s h=>by cases h;rfl⟩
    cases h
    refine ⟨rfl,⟨_,_,_,rfl,by decide +kernel,by decide +kernel,⟨m_Thing__is_glass,by rfl,rfl⟩,fun _=>⟨m_Patterned__colour_at,by rfl,?_⟩⟩,(fun h=>by cases h),bz,(hP i hi j hj).mono (by decide),b0,b0⟩
    refine Tl.eq ?_
    unfold m_Patterned__colour_at
    walk_at "w"
    refine tl_of (fN3 _ _) ?_
    walk_at "w"
    refine tl_of en ?_
    walk_at "w"
 | @glass k T q r ht hk hq hr h0 h1 =>
  rcases tri_seen ht hk cp hp with e | ⟨z,vs,lv,bz,bv,e⟩
  ·exact ⟨none,⟨⟨T,fT4 _ _ _,e⟩,fun s h=>by cases h⟩,fun s h=>by cases h⟩
  ·refine ⟨some ⟨.ins "Glass" ["triangle", "colour", "part"] [T,frD q,frD r],true,z,.tup (vs.map frD),0,r,q,K⟩,⟨⟨T,fT4 _ _ _,e⟩,fun s h=>?_⟩,fun s h=>by cases h;rfl⟩
   cases h
   exact ⟨rfl,⟨_,_,_,rfl,by decide +kernel,by decide +kernel,⟨m_Glass__is_glass,by rfl,rfl⟩,fun h=>by cases h⟩,fun _=>⟨fP4 _ _ _,fC4 _ _ _⟩,bz,b0.mono (by decide),hr,hq⟩
theorem snoc_fam {α β:Type} (f:α → β) (R:Nat → α) (x:α) (n:Nat):(List.range n).map (fun i=>f (R i)) ++ [f x] = (List.range (n + 1)).map fun i=>f ((fun i=>if i = n then x else R i) i):=by
 rw [List.range_succ,List.map_append]
 show _ = _ ++ [f (if n = n then x else R n)]
 rw [if_pos rfl,show (List.range n).map (fun i=>f ((fun i=>if i = n then x else R i) i)) = (List.range n).map (fun i=>f (R i)) from List.map_congr_left fun i hi=>by
  show f (if i = n then x else R i) = _
  rw [if_neg (by have:=List.mem_range.mp hi;omega)]]
theorem snoc_all {α:Type} {Q:α → Prop} {R:Nat → α} {x:α} {n:Nat} (h:∀ i,i < n → Q (R i)) (hx:Q x):∀ i,i < n + 1 → Q ((fun i=>if i = n then x else R i) i):=fun i hi=>by
 show Q (if i = n then x else R i)
 by_cases c:i = n
 ·rw [if_pos c];exact hx
 ·rw [if_neg c];exact h i (by omega)
theorem frD_int (a:Int):D.tup [.int a,.int 1] = frD (a:Rat):=rfl
theorem bq_int {a:Int} {k:Nat} (h:Sm k a) (hk:1 ≤ k):Bq k (a:Rat):=⟨h,by
 show (1:Int).natAbs < 2 ^ k
 exact Nat.one_lt_two_pow (by omega)⟩
theorem w_lawpatt {Φ:D → Prop} {n more:Int} (hn:0 ≤ n) (q:∀ (h w:Nat) (P:Nat → Nat → Rat),Ct h → Ct w → (∀ i,i < h → ∀ j,j < w → Bq 40 (P i j)) → Φ (patD h w P)):Tl (m__law_pattern [.int n,.int more]) Φ:=by
 unfold m__law_pattern
 walk_at "w"
 refine w_ixL ⟨by omega,by show _ < ((4:Nat):Int);omega⟩ fun d hd=>?_
 obtain ⟨h,rfl,hh⟩ : ∃ n:Nat,d = .int (n:Int) ∧ Ct n:=by
  simp only [List.mem_cons,List.not_mem_nil,or_false] at hd
  rcases hd with rfl | rfl | rfl | rfl
  ·exact ⟨1,rfl,by unfold Ct;omega⟩
  ·exact ⟨2,rfl,by unfold Ct;omega⟩
  ·exact ⟨4,rfl,by unfold Ct;omega⟩
  ·exact ⟨16,rfl,by unfold Ct;omega⟩
 walk_at "w"
 refine w_ixL ⟨by omega,by show _ < ((4:Nat):Int);omega⟩ fun d hd=>?_
 obtain ⟨w,rfl,hw⟩ : ∃ n:Nat,d = .int (n:Int) ∧ Ct n:=by
  simp only [List.mem_cons,List.not_mem_nil,or_false] at hd
  rcases hd with rfl | rfl | rfl | rfl
  ·exact ⟨1,rfl,by unfold Ct;omega⟩
  ·exact ⟨2,rfl,by unfold Ct;omega⟩
  ·exact ⟨8,rfl,by unfold Ct;omega⟩
  ·exact ⟨4,rfl,by unfold Ct;omega⟩
 have h1:=hh.le
 have w1:=hw.le
 walk_at "w"
 rw [rangeD_eq,Int.toNat_natCast]
 refine w_upto (fun j ρ=>∃ (P:Nat → Nat → Rat) (v5 v6 v7 v8:Cl),(∀ i,i < j → ∀ t,t < w → Bq 40 (P i t)) ∧ ρ = [.im (.int n),.im (.int more),.im (.int (h:Int)),.im (.int (w:Int)),.ow ((List.range j).map fun i=>rowD w (P i)),v5,v6,v7,v8]) ⟨fun _ _=>0,_,_,_,_,(fun i hi=>absurd hi (Nat.not_lt_zero i)),rfl⟩ ?_ ?_
 ·rintro j hj ρ ⟨P,v5,v6,v7,v8,hP,rfl⟩
  walk_at "w"
  rw [rangeD_eq,Int.toNat_natCast]
  refine w_upto (fun t ρ=>∃ (R:Nat → Rat) (v7 v8:Cl),(∀ i,i < t → Bq 40 (R i)) ∧ ρ = [.im (.int n),.im (.int more),.im (.int (h:Int)),.im (.int (w:Int)),.ow ((List.range j).map fun i=>rowD w (P i)),.im (.int (j:Int)),.ow ((List.range t).map fun i=>frD (R i)),v7,v8]) ⟨fun _=>0,_,_,(fun i hi=>absurd hi (Nat.not_lt_zero i)),rfl⟩ ?_ ?_
  ·rintro t ht ρ ⟨R,v7,v8,hR,rfl⟩
   walk_at "w"
   refine w_mixed (by omega) fun r hr=>?_
   walk_at "w"
   refine w_ratioQ (k:=40) (by omega) (by show (r - 10 ^ 9).natAbs < 2 ^ 40;omega) (by show (1 + r / 9 % 99).natAbs < 2 ^ 40;omega) (by decide) fun hB=>?_
   walk_at "w"
   rw [frD_int]
   refine w_ixL ⟨by omega,by show _ < ((2:Nat):Int);omega⟩ fun d hd=>?_
   obtain ⟨x,rfl,hx⟩ : ∃ x:Rat,d = frD x ∧ Bq 40 x:=by
    simp only [List.mem_cons,List.not_mem_nil,or_false] at hd
    rcases hd with rfl | rfl
    ·exact ⟨_,rfl,bq_int (by show (r % 7).natAbs < 2 ^ 40;omega) (by decide)⟩
    ·exact ⟨_,rfl,hB⟩
   refine ⟨by rw [List.length_map,List.length_range];omega,?_⟩
   rw [snoc_fam frD R x t]
   exact ⟨_,rfl,_,_,_,snoc_all hR hx,rfl⟩
  ·rintro ρ ⟨R,v7,v8,hR,rfl⟩
   walk_at "w"
   refine ⟨by rw [List.length_map,List.length_range];omega,?_⟩
   rw [show D.lst ((List.range w).map fun i=>frD (R i)) = rowD w R from rfl,snoc_fam (rowD w) P R j]
   exact ⟨_,rfl,_,_,_,_,_,snoc_all (Q:=fun S:Nat → Rat=>∀ t,t < w → Bq 40 (S t)) hP hR,rfl⟩
 ·rintro ρ ⟨P,v5,v6,v7,v8,hP,rfl⟩
  walk_at "w"
  exact q h w P hh hw hP
theorem w_make {Φ:D → Prop} {c:Str} {g:List D → Fs → Res Fs} {a:MA} {ρ:Ev} (h:Tl (a ρ) fun ds=>∃ fl,g ds [] = .ok fl ∧ Φ (.ins c (fl.map (·.1)) (fl.map (·.2)))):Tl (make c g a ρ) Φ:=by
 obtain ⟨ds,e1,fl,e2,q⟩:=h
 refine tl_of ?_ q
 unfold make
 rw [e1]
 show (g ds []).bind _ = _
 rw [e2]
 rfl
theorem cut_tk {rs:List Int} {k:Nat}:cutL (rs.map .int) none (some (k:Int)) = (rs.take k).map .int:=by
 unfold cutL cutAt
 rw [List.length_map]
 simp only []
 rw [if_neg (by omega),Int.toNat_natCast,List.drop_zero,Nat.sub_zero,List.map_take]
 by_cases h:k ≤ rs.length
 ·rw [Nat.min_eq_left h]
 ·rw [Nat.min_eq_right (by omega),List.take_of_length_le (by simp),List.take_of_length_le (by simp;omega)]
theorem tr_of {k:Nat} {d:D} (h:isT k d):Tr k d:=by
 obtain ⟨a,b,c,rfl,⟨ax,ay,aw,ah,av,rfl,ca,la,ba⟩,⟨bx,bY,bw,bh,bv,rfl,cb,lb,bb⟩,⟨cx,cy,cw,ch,cv,rfl,cc,lc,bc⟩⟩:=h
 exact ⟨ax,ay,aw,ah,bx,bY,bw,bh,cx,cy,cw,ch,av,bv,cv,rfl,ca,cb,cc,la,lb,lc,ba,bb,bc⟩
theorem few_of {x y w h:Int} {vs:List Int} {f:Nat}:∃ d1,dCut (cor x y w h vs) none (some 4) = .ok d1 ∧ dAdd d1 (.tup [.tup (cutL (vs.map .int) none (some (f:Int)))]) = .ok (cor x y w h (vs.take f)):=by
 refine ⟨.tup [.int x,.int y,.int w,.int h],rfl,?_⟩
 rw [cut_tk]
 rfl
theorem w_lawthing {Φ:D → Prop} {k:Nat} {T:D} {n0 n1 n2 n3:Int} (d0:Dw n0) (d1:Dw n1) (d2:Dw n2) (d3:Dw n3) (hk:2 ≤ k ∧ k ≤ 3) (ht:isT k T) (q:∀ d,Thg d → Φ d):Tl (m__law_thing [.lst [.int n0,.int n1,.int n2,.int n3],T]) Φ:=by
 unfold Dw at d0 d1 d2 d3
 unfold m__law_thing
 walk_at "w"
 refine w_ratioQ (k:=40) (by omega) (by show (2 * (n0 / 8 % 9) + 1).natAbs < 2 ^ 40;omega) (by show (2:Int).natAbs < 2 ^ 40;decide) (by decide) fun hB1=>?_
 walk_at "w"
 refine w_ratioQ (k:=40) (by omega) (by show (n1 - 10 ^ 9).natAbs < 2 ^ 40;omega) (by show (1 + n2).natAbs < 2 ^ 40;omega) (by decide) fun hB2=>?_
 walk_at "w"
 rw [frD_int]
 refine w_ixL ⟨by omega,by show _ < ((3:Nat):Int);omega⟩ fun d hd=>?_
 obtain ⟨cq,rfl,hc⟩ : ∃ x:Rat,d = frD x ∧ Bq 40 x:=by
  simp only [List.mem_cons,List.not_mem_nil,or_false] at hd
  rcases hd with rfl | rfl | rfl
  ·exact ⟨_,rfl,bq_int (by show (n0 / 8 % 9 - 2).natAbs < 2 ^ 40;omega) (by decide)⟩
  ·exact ⟨_,rfl,hB1⟩
  ·exact ⟨_,rfl,hB2⟩
 clear hd
 walk_at "w"
 refine w_dec (fun w0=>?_) (fun w0=>?_)
 ·obtain ⟨a,b,c,rfl,⟨ax,ay,aw,ah,av,rfl,ca,la,ba⟩,⟨bx,bY,bw,bh,bv,rfl,cb,lb,bb⟩,⟨cx,cy,cw,ch,cv,rfl,cc,lc,bc⟩⟩:=ht
  obtain ⟨f,hf⟩ : ∃ f:Nat,1 + n0 / 8 % 3 = (f:Int):=⟨(1 + n0 / 8 % 3).toNat,by omega⟩
  walk_at "w"
  refine w_make ?_
  walk_at "w"
  refine ⟨by show (3:Nat) ≤ _;omega,?_⟩
  rw [hf]
  have few:=fun (x y w h:Int) (vs:List Int)=>few_of (x:=x) (y:=y) (w:=w) (h:=h) (vs:=vs) (f:=f)
  obtain ⟨a1,ea1,ea3⟩:=few ax ay aw ah av
  obtain ⟨b1,eb1,eb3⟩:=few bx bY bw bh bv
  obtain ⟨c1,ec1,ec3⟩:=few cx cy cw ch cv
  have tr:Tr (min f k) (.tup [cor ax ay aw ah (av.take f),cor bx bY bw bh (bv.take f),cor cx cy cw ch (cv.take f)]):=⟨ax,ay,aw,ah,bx,bY,bw,bh,cx,cy,cw,ch,_,_,_,rfl,ca,cb,cc,by rw [List.length_take,la],by rw [List.length_take,lb],by rw [List.length_take,lc],fun v hv=>ba v (List.mem_of_mem_take hv),fun v hv=>bb v (List.mem_of_mem_take hv),fun v hv=>bc v (List.mem_of_mem_take hv)⟩
  refine w_cg1 ?_
  walk_at "w"
  refine tl_of ea1 ?_
  walk_at "w"
  refine tl_of ea3 ?_
  walk_at "w"
  refine w_cg1 ?_
  walk_at "w"
  refine tl_of eb1 ?_
  walk_at "w"
  refine tl_of eb3 ?_
  walk_at "w"
  refine w_cg1 ?_
  walk_at "w"
  refine tl_of ec1 ?_
  walk_at "w"
  refine tl_of ec3 ?_
  walk_at "w"
  refine w_cg0 ?_
  walk_at "w"
  exact ⟨_,i_shaded (by omega) tr (by omega),by walk_at "w"; exact q _ (.shaded tr (by omega) (by omega))⟩
 walk_at "w"
 refine w_dec (fun w1=>?_) (fun w1=>?_)
 ·walk_at "w"
  refine w_make ?_
  walk_at "w"
  refine w_lawpatt (by omega) fun h w P hh hw hP=>?_
  walk_at "w"
  exact ⟨_,i_patt hk.2 (tr_of ht) hk.1 hh hw,by walk_at "w"; exact q _ (.patt (tr_of ht) hk.2 hk.1 hh hw hP)⟩
 walk_at "w"
 refine w_dec (fun w2=>?_) (fun w2=>?_)
 ·walk_at "w"
  refine w_make ?_
  walk_at "w"
  exact ⟨_,i_plain hk.2 (tr_of ht),by walk_at "w"; exact q _ (.plain (tr_of ht) hk.2 hc)⟩
 walk_at "w"
 refine w_ratioQ (k:=40) (t:=n3 % (1 + n1)) (by omega) (by have:=Int.emod_nonneg n3 (show 1 + n1 ≠ 0 by omega);have:=Int.emod_lt_of_pos n3 (show 0 < 1 + n1 by omega);show (n3 % (1 + n1)).natAbs < 2 ^ 40;omega) (by show (1 + n1).natAbs < 2 ^ 40;omega) (by decide) fun hB3=>?_
 walk_at "w"
 have r0:=Int.emod_nonneg n3 (show 1 + n1 ≠ 0 by omega)
 have r1:=Int.emod_lt_of_pos n3 (show 0 < 1 + n1 by omega)
 have lo:∀ {t b:Int},0 ≤ t → t ≤ b → 0 < b → 0 ≤ (Rat.divInt t b).num ∧ (Rat.divInt t b).num ≤ (Rat.divInt t b).den:=by
  intro t b h0 h1 hb
  have d0:=den1 (Rat.divInt t b)
  have e:=(Rat.divInt_eq_divInt_iff (by omega) (by omega)).mp (Rat.num_divInt_den (Rat.divInt t b))
  generalize (Rat.divInt t b).num = p at *
  generalize ((Rat.divInt t b).den:Int) = m at *
  have g0:0 ≤ t * m:=Int.mul_nonneg h0 (by omega)
  have g1:t * m ≤ b * m:=Int.mul_le_mul_of_nonneg_right h1 (by omega)
  constructor
  ·by_cases c:0 ≤ p
   ·exact c
   ·exfalso
    have:=Int.mul_lt_mul_of_pos_right (show p < 0 by omega) hb
    omega
  ·by_cases c:p ≤ m
   ·exact c
   ·exfalso
    have:=Int.mul_lt_mul_of_pos_right (show m < p by omega) hb
    have c2:m * b = b * m:=Int.mul_comm _ _
    omega
 refine w_ixL ⟨by omega,by show _ < ((6:Nat):Int);omega⟩ fun d hd=>?_
 obtain ⟨pq,rfl,hp,hp0,hp1⟩ : ∃ x:Rat,d = frD x ∧ Bq 40 x ∧ 0 ≤ x.num ∧ x.num ≤ x.den:=by
  have lit:∀ {t b:Int},D.tup [.int t,.int b] = frD (Rat.divInt t b) → 0 ≤ t → t ≤ b → 0 < b → b < 2 ^ 30 → ∃ x:Rat,D.tup [.int t,.int b] = frD x ∧ Bq 40 x ∧ 0 ≤ x.num ∧ x.num ≤ x.den:=fun {t b} e h0 h1 hb h2=>⟨_,e,bq_div hb (by show t.natAbs < 2 ^ 40;omega) (by show b.natAbs < 2 ^ 40;omega),lo h0 h1 hb⟩
  simp only [List.mem_cons,List.not_mem_nil,or_false] at hd
  rcases hd with rfl | rfl | rfl | rfl | rfl | rfl
  ·exact lit (t:=0) (b:=1) (by unfold frD;rw [show (Rat.divInt 0 1).num = 0 by decide +kernel,show (Rat.divInt 0 1).den = 1 by decide +kernel];rfl) (by decide) (by decide) (by decide) (by decide)
  ·exact lit (t:=1) (b:=2) (by unfold frD;rw [show (Rat.divInt 1 2).num = 1 by decide +kernel,show (Rat.divInt 1 2).den = 2 by decide +kernel];rfl) (by decide) (by decide) (by decide) (by decide)
  ·exact lit (t:=1) (b:=3) (by unfold frD;rw [show (Rat.divInt 1 3).num = 1 by decide +kernel,show (Rat.divInt 1 3).den = 3 by decide +kernel];rfl) (by decide) (by decide) (by decide) (by decide)
  ·exact lit (t:=2) (b:=3) (by unfold frD;rw [show (Rat.divInt 2 3).num = 2 by decide +kernel,show (Rat.divInt 2 3).den = 3 by decide +kernel];rfl) (by decide) (by decide) (by decide) (by decide)
  ·exact lit (t:=1) (b:=1) (by unfold frD;rw [show (Rat.divInt 1 1).num = 1 by decide +kernel,show (Rat.divInt 1 1).den = 1 by decide +kernel];rfl) (by decide) (by decide) (by decide) (by decide)
  ·exact ⟨_,rfl,hB3,lo r0 (by omega) (by omega)⟩
 walk_at "w"
 refine w_make ?_
 walk_at "w"
 exact ⟨_,i_glass hk.2 (tr_of ht) hp0 hp1,by walk_at "w"; exact q _ (.glass (tr_of ht) hk.2 hc hp hp0 hp1)⟩
theorem w_lawthings {Φ:D → Prop} {ns:List Int} (q:∀ ts:List D,ts.length ≤ 6 → (∀ t ∈ ts,Thg t) → Φ (.lst ts)):Tl (m__law_things [.lst (ns.map .int),.int 0,.int 6]) Φ:=by
 unfold m__law_things
 walk_at "w"
 refine w_cell_at (by omega) fun c1=>?_
 walk_at "w"
 refine w_draws (n:=24) (by decide) fun ds ld hd=>?_
 walk_at "w"
 refine w_cell_at (by omega) fun c2=>?_
 walk_at "w"
 obtain ⟨k,hk⟩ : ∃ k:Nat,2 + c2 / 2 % 2 = (k:Int):=⟨(2 + c2 / 2 % 2).toNat,by omega⟩
 rw [hk]
 refine w_triangles (first:=0) (most:=6) (many:=k) (by omega) (by decide) (by omega) fun tr lt ht=>?_
 walk_at "w"
 have en:Dl.numbered 0 tr = tr.zipIdx.map fun y=>D.tup [.int (y.2:Int),y.1]:=by
  have key:∀ (l:List D) (k:Nat),Dl.numbered k l = (l.zipIdx k).map fun y=>D.tup [.int (y.2:Int),y.1]:=by
   intro l
   induction l with
   | nil=>intro k;rfl
   | cons a r ih =>
    intro k
    rw [List.zipIdx_cons,List.map_cons,← ih (k + 1)]
    rfl
  exact key tr 0
 rw [en]
 refine w_invE (enc:=fun y:D × Nat=>D.tup [.int (y.2:Int),y.1]) (fun pre ρ=>∃ (ts:List D) (v6 v7:Cl),ts.length = pre.length ∧ (∀ t ∈ ts,Thg t) ∧ ρ = [.im (.lst (ns.map .int)),.im (.int 0),.im (.int 6),.im (.lst (ds.map .int)),.ow ts,.im (.int (k:Int)),v6,v7]) ⟨[],_,_,rfl,(fun _ h=>(List.not_mem_nil h).elim),rfl⟩ ?_ ?_
 ·rintro pre ⟨T,i⟩ r e ρ ⟨ts,v6,v7,lts,hts,rfl⟩
  have hz:tr.zipIdx[pre.length]? = some (T,i):=by rw [← e];simp
  have hz':tr[pre.length]? = some T ∧ i = pre.length:=by
   rw [List.getElem?_zipIdx] at hz
   cases eL:tr[pre.length]? with
   | none=>rw [eL] at hz;cases hz
   | some y' =>
    rw [eL] at hz
    simp at hz
    exact ⟨by rw [hz.1],hz.2.symm⟩
  obtain ⟨hz1,rfl⟩:=hz'
  have hlen:pre.length < tr.length:=by
   have:=congrArg List.length e
   simp at this
   omega
  obtain ⟨n0,n1,n2,n3,e4,d0,d1,d2,d3⟩ : ∃ n0 n1 n2 n3:Int,(ds.drop (4 * pre.length)).take 4 = [n0,n1,n2,n3] ∧ Dw n0 ∧ Dw n1 ∧ Dw n2 ∧ Dw n3:=by
   have hall:∀ x ∈ (ds.drop (4 * pre.length)).take 4,Dw x:=fun x hx=>hd x (List.mem_of_mem_drop (List.mem_of_mem_take hx))
   have hl:((ds.drop (4 * pre.length)).take 4).length = 4:=by rw [List.length_take,List.length_drop];omega
   generalize (ds.drop (4 * pre.length)).take 4 = l at *
   match l,hl,hall with
   | [a,b,c,d],_,h=>exact ⟨a,b,c,d,rfl,h a (by simp),h b (by simp),h c (by simp),h d (by simp)⟩
  walk_at "w"
  rw [show (4 * (pre.length:Int)) = ((4 * pre.length:Nat):Int) by omega,show (((4 * pre.length:Nat):Int) + 4) = ((4 * pre.length + 4:Nat):Int) by omega,cut_mid (by omega) (by omega),show 4 * pre.length + 4 - 4 * pre.length = 4 by omega,e4]
  refine w_lawthing d0 d1 d2 d3 (by omega) (ht T (List.mem_of_getElem? hz1)) fun d hd=>?_
  refine ⟨by omega,_,rfl,ts ++ [d],_,_,by rw [List.length_append,List.length_append,lts];rfl,fun t h=>?_,rfl⟩
  rcases List.mem_append.mp h with h | h
  ·exact hts t h
  ·have:t = d:=by simpa using h
   subst this
   exact hd
 ·rintro ρ ⟨ts,v6,v7,lts,hts,rfl⟩
  walk_at "w"
  exact q ts (by rw [lts,List.length_zipIdx];exact lt) hts
theorem tr_flat {k:Nat} {T:D} (h:Tr k T):∃ T',Tr k T' ∧ ∀ {Φ:D → Prop} {ρ:Ev},ρ[1]? = some (.im T) → Φ T' → Tl (on bTup (acons (comp (iv (v 1)) 5 [] (gU 5 (gs1 (gN 0) (gs1 (gN 1) (gs1 (gN 2) (gs1 (gN 3) (gs1 (gN 4) gs0)))))) yes (mtp (acons (v 0) (acons (v 1) (acons (v 2) (acons (v 2) (acons (v 4) anil))))))) anil) ρ) Φ:=by
 obtain ⟨ax,ay,aw,ah,bx,bY,bw,bh,cx,cy,cw,ch,av,bv,cv,rfl,ca,cb,cc,la,lb,lc,va,vb,vc⟩:=h
 refine ⟨.tup [cor ax ay aw aw av,cor bx bY bw bw bv,cor cx cy cw cw cv],⟨ax,ay,aw,aw,bx,bY,bw,bw,cx,cy,cw,cw,av,bv,cv,rfl,⟨ca.x,ca.y,ca.w,ca.w⟩,⟨cb.x,cb.y,cb.w,cb.w⟩,⟨cc.x,cc.y,cc.w,cc.w⟩,la,lb,lc,va,vb,vc⟩,?_⟩
 intro Φ ρ h1 q
 match ρ,h1 with
 | c0 :: .im _ :: rest,rfl =>
  unfold cor at q ⊢
  walk_at "w"
  refine ⟨by show (3:Nat) ≤ _;omega,?_⟩
  refine w_cg1 ?_
  walk_at "w"
  refine w_cg1 ?_
  walk_at "w"
  refine w_cg1 ?_
  walk_at "w"
  refine w_cg0 ?_
  walk_at "w"
  exact q
theorem w_word {Φ:D → Prop} {cn:Str} {ns:List Str} {vs:List D} {o:ME} {ρ:Ev} {f:List D → Res D} {x:Str} (ho:o ρ = .ok (.ins cn ns vs)) (hn:ns.contains "word" = false) (hl:tab_word.lookup cn = some f) (hf:f [.ins cn ns vs] = .ok (.str x)) (q:Φ (.str x)):Tl (meth tab_word "word" o anil ρ) Φ:=by
 refine w_meth ⟨_,ho,cn,ns,vs,f,rfl,hn,hl,?_⟩
 refine tl_of (x:=[]) rfl ?_
 exact tl_of hf q
theorem w_eqS {Φ:D → Prop} {x y:Str} {b:Bool} (h1:plain 50 (.str x) = true) (h2:plain 50 (.str y) = true) (hb:eqD (.str x) (.str y) = b) (q:Φ (.bl b)):Tl (dEq (.str x) (.str y)) Φ:=by
 refine tl_of (x:=.bl b) ?_ q
 unfold dEq
 rw [h1,h2,hb]
 rfl
theorem thg_tri {d:D} (h:Thg d):∃ k T,Tr k T ∧ k ≤ 3 ∧ dFld objs "triangle" d = .ok T:=by
 cases h with
 | @plain k T q ht hk hq=>exact ⟨k,T,ht,hk,fT1 _ _⟩
 | @shaded k T ht hk h1=>exact ⟨k,T,ht,hk,fT2 _⟩
 | @patt k h w T P ht hk h2 hh hw hP=>exact ⟨k,T,ht,hk,fT3 _ _⟩
 | @glass k T q r ht hk hq hr h0 h1=>exact ⟨k,T,ht,hk,fT4 _ _ _⟩
theorem w_flat {Φ:D → Prop} {d T:D} (h:Thg d) (ht:dFld objs "triangle" d = .ok T) (q:∀ d',Thg d' → Φ d'):Tl (m__law_flat [d,T]) Φ:=by
 unfold m__law_flat
 cases h with
 | @plain k T' c tr hk hc =>
  rw [fT1] at ht
  cases ht
  obtain ⟨T2,tr2,w2⟩:=tr_flat tr
  refine w_fn ?_
  refine w_sq (w_st (w2 rfl ?_))
  walk_at "w"
  refine w_word (f:=m_Plain__word) (x := "plain") rfl (by decide +kernel) rfl rfl ?_
  walk_at "w"
  refine w_eqS (b:=false) (by decide +kernel) (by decide +kernel) (by decide +kernel) ?_
  walk_at "w"
  refine w_word (f:=m_Plain__word) (x := "plain") rfl (by decide +kernel) rfl rfl ?_
  walk_at "w"
  refine w_eqS (b:=true) (by decide +kernel) (by decide +kernel) (by decide +kernel) ?_
  walk_at "w"
  refine w_make ?_
  walk_at "w"
  refine tl_of (fC1 _ _) ?_
  walk_at "w"
  exact ⟨_,i_plain hk tr2,by walk_at "w"; exact q _ (.plain tr2 hk hc)⟩
 | @shaded k T' tr hk h1 =>
  rw [fT2] at ht
  cases ht
  obtain ⟨T2,tr2,w2⟩:=tr_flat tr
  refine w_fn ?_
  refine w_sq (w_st (w2 rfl ?_))
  walk_at "w"
  refine w_word (f:=m_Shaded__word) (x := "shaded") rfl (by decide +kernel) rfl rfl ?_
  walk_at "w"
  refine w_eqS (b:=false) (by decide +kernel) (by decide +kernel) (by decide +kernel) ?_
  walk_at "w"
  refine w_word (f:=m_Shaded__word) (x := "shaded") rfl (by decide +kernel) rfl rfl ?_
  walk_at "w"
  refine w_eqS (b:=false) (by decide +kernel) (by decide +kernel) (by decide +kernel) ?_
  walk_at "w"
  refine w_make ?_
  walk_at "w"
  exact ⟨_,i_shaded hk tr2 h1,by walk_at "w"; exact q _ (.shaded tr2 hk h1)⟩
 | @patt k h w T' P tr hk h2 hh hw hP =>
  rw [fT3] at ht
  cases ht
  obtain ⟨T2,tr2,w2⟩:=tr_flat tr
  refine w_fn ?_
  refine w_sq (w_st (w2 rfl ?_))
  walk_at "w"
  refine w_word (f:=m_Patterned__word) (x := "patterned") rfl (by decide +kernel) rfl rfl ?_
  walk_at "w"
  refine w_eqS (b:=false) (by decide +kernel) (by decide +kernel) (by decide +kernel) ?_
  walk_at "w"
  refine w_word (f:=m_Patterned__word) (x := "patterned") rfl (by decide +kernel) rfl rfl ?_
  walk_at "w"
  refine w_eqS (b:=false) (by decide +kernel) (by decide +kernel) (by decide +kernel) ?_
  walk_at "w"
  refine w_make ?_
  walk_at "w"
  exact ⟨_,i_shaded hk tr2 (by omega),by walk_at "w"; exact q _ (.shaded tr2 hk (by omega))⟩
 | @glass k T' c r tr hk hc hr h0 h1 =>
  rw [fT4] at ht
  cases ht
  obtain ⟨T2,tr2,w2⟩:=tr_flat tr
  refine w_fn ?_
  refine w_sq (w_st (w2 rfl ?_))
  walk_at "w"
  refine w_word (f:=m_Glass__word) (x := "glass") rfl (by decide +kernel) rfl rfl ?_
  walk_at "w"
  refine w_eqS (b:=true) (by decide +kernel) (by decide +kernel) (by decide +kernel) ?_
  walk_at "w"
  refine w_make ?_
  walk_at "w"
  refine tl_of (fC4 _ _ _) ?_
  walk_at "w"
  refine tl_of (fP4 _ _ _) ?_
  walk_at "w"
  exact ⟨_,i_glass hk tr2 h0 h1,by walk_at "w"; exact q _ (.glass tr2 hk hc hr h0 h1)⟩
theorem list_of {px py ps:Int} (cp:Cr px py ps) (hp:1 ≤ ps):∀ (ts:List D) (k0:Nat),(∀ t ∈ ts,Thg t) → ∃ L:List DO,L.map (·.1) = ts ∧ (∀ y ∈ L,Seen (.tup [.int px,.int py,.int ps]) y.1 y.2) ∧ ∀ (i:Nat) (y:DO) (s:Sg),L[i]? = some y → y.2 = some s → s.k = ((k0 + i:Nat):Int)
 | [],_,_=>⟨[],rfl,fun _ h=>(List.not_mem_nil h).elim,fun i y s h=>by simp at h⟩
 | t :: ts,k0,h=>by
  obtain ⟨o,h1,h2⟩:=seen_of (h t List.mem_cons_self) cp hp (k0:Int)
  obtain ⟨L,e1,e2,e3⟩:=list_of cp hp ts (k0 + 1) fun x hx=>h x (List.mem_cons_of_mem _ hx)
  refine ⟨(t,o) :: L,by rw [List.map_cons,e1],fun y hy=>?_,fun i y s hy hs=>?_⟩
  ·rcases List.mem_cons.mp hy with rfl | hy
   ·exact h1
   ·exact e2 y hy
  ·cases i with
   | zero =>
    have:y = (t,o):=by simpa using hy.symm
    subst this
    rw [h2 s hs]
    rfl
   | succ i =>
    rw [e3 i y s (by simpa using hy) hs]
    congr 1
    omega
theorem pure_law (ns:List Int) (h63:ns.length ≤ 63):m_law [.lst (ns.map .int)] = .ok (.bl true):=by
 refine Tl.eq ?_
 unfold m_law
 walk_at "w"
 refine w_lawthings fun ts0 l0 h0=>?_
 walk_at "w"
 refine w_cell_at (by omega) fun c8=>?_
 walk_at "w"
 refine w_draws (n:=26) (by decide) fun ds ld hd=>?_
 walk_at "w"
 have ixd:∀ {Φ:D → Prop} (i:Nat),i < 26 → (∀ r:Int,Dw r → Φ (.int r)) → Tl (dIx (.lst (ds.map .int)) (.int (i:Int))) Φ:=fun {Φ} i hi q=>w_ixI (by omega) fun r hr=>q r (hd r hr)
 refine ixd 8 (by omega) fun r8 d8=>?_
 walk_at "w"
 refine Tl.mono (Ψ:=fun f=>∃ ts:List D,ts.length ≤ 6 ∧ (∀ t ∈ ts,Thg t) ∧ f = Fl.nx [.im (.lst (ns.map .int)),.im (.lst ts),.im (.lst (ds.map .int)),.no,.no,.no,.no,.no,.no,.no,.no]) ?_ ?_
 ·refine w_dec (fun _=>?_) (fun _=>?_)
  ·walk_at "w"
   refine ⟨by omega,?_⟩
   refine w_all (fun _ y=>Thg y) (fun x hx=>?_) fun ys ly hy=>?_
   ·obtain ⟨k,T,tr,hk,hT⟩:=thg_tri (h0 x hx)
    walk_at "w"
    refine tl_of hT ?_
    walk_at "w"
    exact w_flat (h0 x hx) hT fun d' h=>h
   ·have hy':=all_of ly hy
    walk_at "w"
    exact ⟨ys,by omega,hy',rfl⟩
  ·walk_at "w"
   exact ⟨ts0,l0,h0,rfl⟩
 rintro f ⟨ts1,l1,h1,rfl⟩
 clear h0 l0 ts0
 walk_at "w"
 refine ixd 9 (by omega) fun r9 d9=>?_
 unfold Dw at d9
 walk_at "w"
 refine w_ixL ⟨by omega,by show _ < ((3:Nat):Int);omega⟩ fun d hdg=>?_
 obtain ⟨g,rfl,hg⟩ : ∃ x:Rat,d = frD x ∧ Bq 300 x:=by
  simp only [List.mem_cons,List.not_mem_nil,or_false] at hdg
  rcases hdg with rfl | rfl | rfl
  ·exact ⟨_,frD_int 0,bq_int (by show (0:Int).natAbs < 2 ^ 300;decide) (by decide)⟩
  ·refine ⟨Rat.divInt 7 2,?_,bq_div (by decide) (by show (7:Int).natAbs < 2 ^ 300;decide) (by show (2:Int).natAbs < 2 ^ 300;decide)⟩
   unfold frD
   rw [show (Rat.divInt 7 2).num = 7 by decide +kernel,show (Rat.divInt 7 2).den = 2 by decide +kernel]
   rfl
  ·exact ⟨_,frD_int (-3),bq_int (by show (-3:Int).natAbs < 2 ^ 300;decide) (by decide)⟩
 clear hdg
 walk_at "w"
 refine ixd 9 (by omega) fun r9' d9'=>?_
 walk_at "w"
 refine Tl.mono (Ψ:=fun f=>∃ ts:List D,ts.length ≤ 12 ∧ (∀ t ∈ ts,Thg t) ∧ f = Fl.nx [.im (.lst (ns.map .int)),.im (.lst ts),.im (.lst (ds.map .int)),.im (frD g),.no,.no,.no,.no,.no,.no,.no]) ?_ ?_
 ·refine w_dec (fun _=>?_) (fun _=>?_)
  ·walk_at "w"
   have e2:cutL ts1 none (some 2) = ts1.take 2:=by
    unfold cutL cutAt
    simp only []
    rw [if_neg (by omega),List.drop_zero,Nat.sub_zero]
    by_cases c:2 ≤ ts1.length
    ·rw [show min (Int.toNat 2) ts1.length = 2 by show min 2 _ = 2;omega]
    ·rw [show min (Int.toNat 2) ts1.length = ts1.length by show min 2 _ = _;omega,List.take_of_length_le (by omega),List.take_of_length_le (by omega)]
   rw [e2]
   refine w_addL (by rw [List.length_take];omega) ?_
   walk_at "w"
   refine ⟨_,by rw [List.length_append,List.length_take];omega,fun t ht=>?_,rfl⟩
   rcases List.mem_append.mp ht with ht | ht
   ·exact h1 t ht
   ·exact h1 t (List.mem_of_mem_take ht)
  ·walk_at "w"
   exact ⟨ts1,by omega,h1,rfl⟩
 rintro f ⟨ts,lt,ht,rfl⟩
 clear h1 l1 ts1
 walk_at "w"
 show Tl (forGo _ _ (rangeD 0 8) _) _
 rw [rangeD_eq]
 refine w_upto (fun j ρ=>∃ v4 v5 v6 v7 v8 v9 v10:Cl,ρ = [.im (.lst (ns.map .int)),.im (.lst ts),.im (.lst (ds.map .int)),.im (frD g),v4,v5,v6,v7,v8,v9,v10]) ⟨_,_,_,_,_,_,_,rfl⟩ ?_ ?_
 ·rintro j hj ρ ⟨v4,v5,v6,v7,v8,v9,v10,rfl⟩
  walk_at "w"
  refine ixd j (by omega) fun r dr=>?_
  unfold Dw at dr
  walk_at "w"
  have sm9:∀ {x:Int},-100000000 ≤ x → x ≤ 100000000 → Sm 64 x:=fun h1 h2=>Sm.of64 (by omega) (by omega)
  refine Tl.mono (Ψ:=fun f=>∃ (px py ps:Int) (v7:Cl),Cr px py ps ∧ 1 ≤ ps ∧ f = Fl.nx [.im (.lst (ns.map .int)),.im (.lst ts),.im (.lst (ds.map .int)),.im (frD g),.im (.int (j:Int)),.im (.int r),.im (.tup [.int px,.int py,.int ps]),v7,v8,v9,v10]) ?_ ?_
  ·refine w_dec (fun _=>?_) (fun _=>?_)
   ·generalize hm:1 + r / 8 % 9 = m
    have hm1:1 ≤ m ∧ m ≤ 9:=by omega
    have e1:=Int.emod_nonneg (r / 128) (show 8 * m ≠ 0 by omega)
    have e2:=Int.emod_lt_of_pos (r / 128) (show 0 < 8 * m by omega)
    have e3:=Int.emod_nonneg (r / 16384) (show 8 * m ≠ 0 by omega)
    have e4:=Int.emod_lt_of_pos (r / 16384) (show 0 < 8 * m by omega)
    walk_at "w"
    rw [hm]
    exact ⟨_,_,_,_,⟨sm9 (by omega) (by omega),sm9 (by omega) (by omega),sm9 (by omega) (by omega)⟩,hm1.1,rfl⟩
   ·walk_at "w"
    exact ⟨_,_,_,_,⟨sm9 (by omega) (by omega),sm9 (by omega) (by omega),sm9 (by omega) (by omega)⟩,by omega,rfl⟩
  rintro f ⟨px1,py1,ps1,v7',cp1,hp1,rfl⟩
  walk_at "w"
  refine Tl.mono (Ψ:=fun f=>∃ (px py ps:Int) (v8:Cl),Cr px py ps ∧ 1 ≤ ps ∧ f = Fl.nx [.im (.lst (ns.map .int)),.im (.lst ts),.im (.lst (ds.map .int)),.im (frD g),.im (.int (j:Int)),.im (.int r),.im (.tup [.int px,.int py,.int ps]),v7',v8,v9,v10]) ?_ ?_
  ·refine w_dec (fun _=>?_) (fun _=>?_)
   ·walk_at "w"
    rw [show (10 + (j:Int)) = ((10 + j:Nat):Int) by omega]
    refine ixd (10 + j) (by omega) fun ra da=>?_
    unfold Dw at da
    walk_at "w"
    rw [show (18 + (j:Int)) = ((18 + j:Nat):Int) by omega]
    refine ixd (18 + j) (by omega) fun rb db=>?_
    unfold Dw at db
    walk_at "w"
    exact ⟨_,_,_,_,⟨sm9 (by omega) (by omega),sm9 (by omega) (by omega),sm9 (by omega) (by omega)⟩,by omega,rfl⟩
   ·walk_at "w"
    exact ⟨_,_,_,_,cp1,hp1,rfl⟩
  rintro f ⟨px,py,ps,v8',cp,hp,rfl⟩
  obtain ⟨L,rfl,hL,hk⟩:=list_of cp hp ts 0 ht
  have hk':∀ (i:Nat) (y:DO) (s:Sg),L[i]? = some y → y.2 = some s → s.k = (i:Int):=fun i y s h1 h2=>by
   have:=hk i y s h1 h2
   rwa [Nat.zero_add] at this
  have lL:L.length ≤ 12:=by rwa [List.length_map] at lt
  walk_at "w"
  refine w_coloursn hg hL lL ?_
  walk_at "w"
  unfold frD
  walk_at "w"
  show Tl (m__law_colour [.lst (L.map (·.1)),.tup [.int px,.int py,.int ps],frD g]) _
  refine w_lawcol hg hL hk' lL ?_
  show Tl (dNe (frD _) (frD _)) _
  refine w_neR (fr_plain 49 _) ?_
  walk_at "w"
  show Tl (m_colour_seen [.lst (L.map (·.1)),.tup [.int px,.int py,.int ps],frD g]) _
  refine w_coloursn hg hL lL ?_
  walk_at "w"
  show Tl (dNe (frD _) (frD _)) _
  refine w_neR (fr_plain 49 _) ?_
  walk_at "w"
  exact ⟨_,rfl,_,_,_,_,_,_,_,rfl⟩
 ·rintro ρ ⟨v4,v5,v6,v7,v8,v9,v10,rfl⟩
  walk_at "w"
end My
namespace My
open PySem L2 Ds Dl
def top (i:Nat):Stmt:=PySem.Challenge.pw_sampleyard_k53_seen_through.main.body.getD i (.Pass ⟨0,0,0,0⟩)
abbrev s__law_cell_at:Stmt:=top 56
abbrev s_Glass__colour_at:Stmt:=(inClass (top 51) 3)
abbrev s_down:Stmt:=top 16
abbrev s_entry_at:Stmt:=top 45
abbrev s_Patterned__colour_at:Stmt:=(inClass (top 50) 2)
abbrev s_Plain__colour_at:Stmt:=(inClass (top 48) 2)
abbrev s_Shaded__colour_at:Stmt:=(inClass (top 49) 2)
abbrev s_Glass__is_glass:Stmt:=(inClass (top 51) 2)
abbrev s_Thing__is_glass:Stmt:=(inClass (top 47) 1)
abbrev s__law_less:Stmt:=top 64
abbrev s_greatest_divisor:Stmt:=top 8
abbrev s_ratio:Stmt:=top 11
abbrev s_summed_products:Stmt:=top 9
abbrev s_weighed_h:Stmt:=top 28
abbrev s_depth_and_values:Stmt:=top 27
abbrev s_check_before_eye:Stmt:=top 22
abbrev s_edge_numbers:Stmt:=top 20
abbrev s_side:Stmt:=top 19
abbrev s_had:Stmt:=top 23
abbrev s_edge_sum:Stmt:=top 21
abbrev s_weights:Stmt:=top 24
abbrev s_seen_at:Stmt:=top 26
abbrev s__law_sights:Stmt:=top 65
abbrev s__law_colour:Stmt:=top 66
abbrev s__law_mixed:Stmt:=top 57
abbrev s__law_draws:Stmt:=top 58
abbrev s_Glass__word:Stmt:=(inClass (top 51) 1)
abbrev s_Patterned__word:Stmt:=(inClass (top 50) 1)
abbrev s_Plain__word:Stmt:=(inClass (top 48) 1)
abbrev s_Shaded__word:Stmt:=(inClass (top 49) 1)
abbrev s_is_whole:Stmt:=top 7
abbrev s_are_values:Stmt:=top 40
abbrev s_is_corner:Stmt:=top 39
abbrev s_check_triangle:Stmt:=top 38
abbrev s_Thing____init__:Stmt:=(inClass (top 47) 0)
abbrev s_is_fraction:Stmt:=top 17
abbrev s_check_colour:Stmt:=top 53
abbrev s_check_part:Stmt:=top 54
abbrev s_Glass____init__:Stmt:=(inClass (top 51) 0)
abbrev s_Plain____init__:Stmt:=(inClass (top 48) 0)
abbrev s_check_values:Stmt:=top 52
abbrev s_Shaded____init__:Stmt:=(inClass (top 49) 0)
abbrev s__law_flat:Stmt:=top 67
abbrev s_check_pattern:Stmt:=top 43
abbrev s_copied:Stmt:=top 44
abbrev s_Patterned____init__:Stmt:=(inClass (top 50) 0)
abbrev s__law_pattern:Stmt:=top 61
abbrev s__law_thing:Stmt:=top 62
abbrev s__law_corner:Stmt:=top 59
abbrev s__law_triangles:Stmt:=top 60
abbrev s__law_things:Stmt:=top 63
abbrev s_minus:Stmt:=top 13
abbrev s_plus:Stmt:=top 12
abbrev s_product:Stmt:=top 14
abbrev s_laid_over:Stmt:=top 35
abbrev s_under:Stmt:=top 15
abbrev s_layers_over:Stmt:=top 34
abbrev s_nearest_of:Stmt:=top 33
abbrev s_colour_of:Stmt:=top 32
abbrev s_sights_at:Stmt:=top 31
abbrev s_colour_seen:Stmt:=top 30
abbrev s_law:Stmt:=top 68
theorem sc__law_cell_at:FnScope ["_law_script", "_law_k"] ["_law_script", "_law_k"] (defScope s__law_cell_at):=⟨rfl,rfl,rfl,by decide +kernel,rfl,by decide +kernel,by decide +kernel⟩
theorem sc_Glass__colour_at:FnScope ["self", "values"] ["self", "values"] (defScope s_Glass__colour_at):=⟨rfl,rfl,rfl,by decide +kernel,rfl,by decide +kernel,by decide +kernel⟩
theorem sc_down:FnScope ["one"] ["one"] (defScope s_down):=⟨rfl,rfl,rfl,by decide +kernel,rfl,by decide +kernel,by decide +kernel⟩
theorem sc_entry_at:FnScope ["pattern", "u", "v", "row"] ["pattern", "u", "v"] (defScope s_entry_at):=⟨rfl,rfl,rfl,by decide +kernel,rfl,by decide +kernel,by decide +kernel⟩
theorem sc_Patterned__colour_at:FnScope ["self", "values"] ["self", "values"] (defScope s_Patterned__colour_at):=⟨rfl,rfl,rfl,by decide +kernel,rfl,by decide +kernel,by decide +kernel⟩
theorem sc_Plain__colour_at:FnScope ["self", "values"] ["self", "values"] (defScope s_Plain__colour_at):=⟨rfl,rfl,rfl,by decide +kernel,rfl,by decide +kernel,by decide +kernel⟩
theorem sc_Shaded__colour_at:FnScope ["self", "values"] ["self", "values"] (defScope s_Shaded__colour_at):=⟨rfl,rfl,rfl,by decide +kernel,rfl,by decide +kernel,by decide +kernel⟩
theorem sc_Glass__is_glass:FnScope ["self"] ["self"] (defScope s_Glass__is_glass):=⟨rfl,rfl,rfl,by decide +kernel,rfl,by decide +kernel,by decide +kernel⟩
theorem sc_Thing__is_glass:FnScope ["self"] ["self"] (defScope s_Thing__is_glass):=⟨rfl,rfl,rfl,by decide +kernel,rfl,by decide +kernel,by decide +kernel⟩
theorem sc__law_less:FnScope ["_law_one", "_law_other"] ["_law_one", "_law_other"] (defScope s__law_less):=⟨rfl,rfl,rfl,by decide +kernel,rfl,by decide +kernel,by decide +kernel⟩
theorem sc_greatest_divisor:FnScope ["numbers", "found", "number", "rest", "left"] ["numbers"] (defScope s_greatest_divisor):=⟨rfl,rfl,rfl,by decide +kernel,rfl,by decide +kernel,by decide +kernel⟩
theorem sc_ratio:FnScope ["top", "bottom", "divisor"] ["top", "bottom"] (defScope s_ratio):=⟨rfl,rfl,rfl,by decide +kernel,rfl,by decide +kernel,by decide +kernel⟩
theorem sc_summed_products:FnScope ["three", "other"] ["three", "other"] (defScope s_summed_products):=⟨rfl,rfl,rfl,by decide +kernel,rfl,by decide +kernel,by decide +kernel⟩
theorem sc_weighed_h:FnScope ["triangle", "amounts"] ["triangle", "amounts"] (defScope s_weighed_h):=⟨rfl,rfl,rfl,by decide +kernel,rfl,by decide +kernel,by decide +kernel⟩
theorem sc_depth_and_values:FnScope ["triangle", "amounts", "bottom", "depth", "threes"] ["triangle", "amounts"] (defScope s_depth_and_values):=⟨rfl,rfl,rfl,by decide +kernel,rfl,by decide +kernel,by decide +kernel⟩
theorem sc_check_before_eye:FnScope ["corners", "corner"] ["corners"] (defScope s_check_before_eye):=⟨rfl,rfl,rfl,by decide +kernel,rfl,by decide +kernel,by decide +kernel⟩
theorem sc_edge_numbers:FnScope ["one", "other"] ["one", "other"] (defScope s_edge_numbers):=⟨rfl,rfl,rfl,by decide +kernel,rfl,by decide +kernel,by decide +kernel⟩
theorem sc_side:FnScope ["one", "other", "point", "n", "number"] ["one", "other", "point"] (defScope s_side):=⟨rfl,rfl,rfl,by decide +kernel,rfl,by decide +kernel,by decide +kernel⟩
theorem sc_had:FnScope ["triangle", "point", "turn"] ["triangle", "point"] (defScope s_had):=⟨rfl,rfl,rfl,by decide +kernel,rfl,by decide +kernel,by decide +kernel⟩
theorem sc_edge_sum:FnScope ["one", "other", "point"] ["one", "other", "point"] (defScope s_edge_sum):=⟨rfl,rfl,rfl,by decide +kernel,rfl,by decide +kernel,by decide +kernel⟩
theorem sc_weights:FnScope ["triangle", "point"] ["triangle", "point"] (defScope s_weights):=⟨rfl,rfl,rfl,by decide +kernel,rfl,by decide +kernel,by decide +kernel⟩
theorem sc_seen_at:FnScope ["triangle", "point"] ["triangle", "point"] (defScope s_seen_at):=⟨rfl,rfl,rfl,by decide +kernel,rfl,by decide +kernel,by decide +kernel⟩
theorem sc__law_sights:FnScope ["_law_things_here", "_law_point", "_law_rows", "_law_number", "_law_thing_here", "_law_told", "_law_at"] ["_law_things_here", "_law_point"] (defScope s__law_sights):=⟨rfl,rfl,rfl,by decide +kernel,rfl,by decide +kernel,by decide +kernel⟩
theorem sc__law_colour:FnScope ["_law_things_here", "_law_point", "_law_ground", "_law_rows", "_law_solid", "_law_colour_here", "_law_over", "_law_depth", "_law_number", "_law_thing_here", "_law_values", "_law_part", "_law_here", "_law_top"] ["_law_things_here", "_law_point", "_law_ground"] (defScope s__law_colour):=⟨rfl,rfl,rfl,by decide +kernel,rfl,by decide +kernel,by decide +kernel⟩
theorem sc__law_mixed:FnScope ["_law_cell", "_law_k", "_law_number"] ["_law_cell", "_law_k"] (defScope s__law_mixed):=⟨rfl,rfl,rfl,by decide +kernel,rfl,by decide +kernel,by decide +kernel⟩
theorem sc__law_draws:FnScope ["_law_cell", "_law_many"] ["_law_cell", "_law_many"] (defScope s__law_draws):=⟨rfl,rfl,rfl,by decide +kernel,rfl,by decide +kernel,by decide +kernel⟩
theorem sc_Glass__word:FnScope ["self"] ["self"] (defScope s_Glass__word):=⟨rfl,rfl,rfl,by decide +kernel,rfl,by decide +kernel,by decide +kernel⟩
theorem sc_Patterned__word:FnScope ["self"] ["self"] (defScope s_Patterned__word):=⟨rfl,rfl,rfl,by decide +kernel,rfl,by decide +kernel,by decide +kernel⟩
theorem sc_Plain__word:FnScope ["self"] ["self"] (defScope s_Plain__word):=⟨rfl,rfl,rfl,by decide +kernel,rfl,by decide +kernel,by decide +kernel⟩
theorem sc_Shaded__word:FnScope ["self"] ["self"] (defScope s_Shaded__word):=⟨rfl,rfl,rfl,by decide +kernel,rfl,by decide +kernel,by decide +kernel⟩
theorem sc_is_whole:FnScope ["thing"] ["thing"] (defScope s_is_whole):=⟨rfl,rfl,rfl,by decide +kernel,rfl,by decide +kernel,by decide +kernel⟩
theorem sc_are_values:FnScope ["thing"] ["thing"] (defScope s_are_values):=⟨rfl,rfl,rfl,by decide +kernel,rfl,by decide +kernel,by decide +kernel⟩
theorem sc_is_corner:FnScope ["thing"] ["thing"] (defScope s_is_corner):=⟨rfl,rfl,rfl,by decide +kernel,rfl,by decide +kernel,by decide +kernel⟩
theorem sc_check_triangle:FnScope ["triangle", "corner"] ["triangle"] (defScope s_check_triangle):=⟨rfl,rfl,rfl,by decide +kernel,rfl,by decide +kernel,by decide +kernel⟩
theorem sc_Thing____init__:FnScope ["self", "triangle"] ["self", "triangle"] (defScope s_Thing____init__):=⟨rfl,rfl,rfl,by decide +kernel,rfl,by decide +kernel,by decide +kernel⟩
theorem sc_is_fraction:FnScope ["thing"] ["thing"] (defScope s_is_fraction):=⟨rfl,rfl,rfl,by decide +kernel,rfl,by decide +kernel,by decide +kernel⟩
theorem sc_check_colour:FnScope ["colour"] ["colour"] (defScope s_check_colour):=⟨rfl,rfl,rfl,by decide +kernel,rfl,by decide +kernel,by decide +kernel⟩
theorem sc_check_part:FnScope ["part"] ["part"] (defScope s_check_part):=⟨rfl,rfl,rfl,by decide +kernel,rfl,by decide +kernel,by decide +kernel⟩
theorem sc_Glass____init__:FnScope ["self", "triangle", "colour", "part"] ["self", "triangle", "colour", "part"] (defScope s_Glass____init__):=⟨rfl,rfl,rfl,by decide +kernel,rfl,by decide +kernel,by decide +kernel⟩
theorem sc_Plain____init__:FnScope ["self", "triangle", "colour"] ["self", "triangle", "colour"] (defScope s_Plain____init__):=⟨rfl,rfl,rfl,by decide +kernel,rfl,by decide +kernel,by decide +kernel⟩
theorem sc_check_values:FnScope ["triangle", "least"] ["triangle", "least"] (defScope s_check_values):=⟨rfl,rfl,rfl,by decide +kernel,rfl,by decide +kernel,by decide +kernel⟩
theorem sc_Shaded____init__:FnScope ["self", "triangle"] ["self", "triangle"] (defScope s_Shaded____init__):=⟨rfl,rfl,rfl,by decide +kernel,rfl,by decide +kernel,by decide +kernel⟩
theorem sc__law_flat:FnScope ["_law_thing_here", "_law_triangle", "_law_same"] ["_law_thing_here", "_law_triangle"] (defScope s__law_flat):=⟨rfl,rfl,rfl,by decide +kernel,rfl,by decide +kernel,by decide +kernel⟩
theorem sc_check_pattern:FnScope ["pattern", "row"] ["pattern"] (defScope s_check_pattern):=⟨rfl,rfl,rfl,by decide +kernel,rfl,by decide +kernel,by decide +kernel⟩
theorem sc_copied:FnScope ["pattern"] ["pattern"] (defScope s_copied):=⟨rfl,rfl,rfl,by decide +kernel,rfl,by decide +kernel,by decide +kernel⟩
theorem sc_Patterned____init__:FnScope ["self", "triangle", "pattern"] ["self", "triangle", "pattern"] (defScope s_Patterned____init__):=⟨rfl,rfl,rfl,by decide +kernel,rfl,by decide +kernel,by decide +kernel⟩
theorem sc__law_pattern:FnScope ["_law_number", "_law_more", "_law_rows", "_law_columns", "_law_found", "_law_r", "_law_line", "_law_c", "_law_one"] ["_law_number", "_law_more"] (defScope s__law_pattern):=⟨rfl,rfl,rfl,by decide +kernel,rfl,by decide +kernel,by decide +kernel⟩
theorem sc__law_thing:FnScope ["_law_draws_here", "_law_triangle", "_law_number", "_law_top", "_law_bottom", "_law_more", "_law_colour_here", "_law_way", "_law_few", "_law_part"] ["_law_draws_here", "_law_triangle"] (defScope s__law_thing):=⟨rfl,rfl,rfl,by decide +kernel,rfl,by decide +kernel,by decide +kernel⟩
theorem sc__law_corner:FnScope ["_law_draws_here", "_law_many", "_law_number", "_law_more", "_law_scale", "_law_times", "_law_x", "_law_y", "_law_w", "_law_h", "_law_values"] ["_law_draws_here", "_law_many"] (defScope s__law_corner):=⟨rfl,rfl,rfl,by decide +kernel,rfl,by decide +kernel,by decide +kernel⟩
theorem sc__law_triangles:FnScope ["_law_script", "_law_first", "_law_most", "_law_many", "_law_size", "_law_rows", "_law_pool", "_law_draws_here", "_law_found", "_law_k", "_law_number", "_law_one"] ["_law_script", "_law_first", "_law_most", "_law_many"] (defScope s__law_triangles):=⟨rfl,rfl,rfl,by decide +kernel,rfl,by decide +kernel,by decide +kernel⟩
theorem sc__law_things:FnScope ["_law_script", "_law_first", "_law_most", "_law_draws_here", "_law_found", "_law_many", "_law_k", "_law_triangle"] ["_law_script", "_law_first", "_law_most"] (defScope s__law_things):=⟨rfl,rfl,rfl,by decide +kernel,rfl,by decide +kernel,by decide +kernel⟩
theorem sc_minus:FnScope ["one", "other"] ["one", "other"] (defScope s_minus):=⟨rfl,rfl,rfl,by decide +kernel,rfl,by decide +kernel,by decide +kernel⟩
theorem sc_plus:FnScope ["one", "other"] ["one", "other"] (defScope s_plus):=⟨rfl,rfl,rfl,by decide +kernel,rfl,by decide +kernel,by decide +kernel⟩
theorem sc_product:FnScope ["one", "other"] ["one", "other"] (defScope s_product):=⟨rfl,rfl,rfl,by decide +kernel,rfl,by decide +kernel,by decide +kernel⟩
theorem sc_laid_over:FnScope ["glass", "colour", "left"] ["glass", "colour"] (defScope s_laid_over):=⟨rfl,rfl,rfl,by decide +kernel,rfl,by decide +kernel,by decide +kernel⟩
theorem sc_under:FnScope ["one", "other"] ["one", "other"] (defScope s_under):=⟨rfl,rfl,rfl,by decide +kernel,rfl,by decide +kernel,by decide +kernel⟩
theorem sc_layers_over:FnScope ["nearest", "sights", "layers", "sight", "place"] ["nearest", "sights"] (defScope s_layers_over):=⟨rfl,rfl,rfl,by decide +kernel,rfl,by decide +kernel,by decide +kernel⟩
theorem sc_nearest_of:FnScope ["sights", "nearest", "sight"] ["sights"] (defScope s_nearest_of):=⟨rfl,rfl,rfl,by decide +kernel,rfl,by decide +kernel,by decide +kernel⟩
theorem sc_colour_of:FnScope ["sights", "ground", "nearest", "colour", "sight"] ["sights", "ground"] (defScope s_colour_of):=⟨rfl,rfl,rfl,by decide +kernel,rfl,by decide +kernel,by decide +kernel⟩
theorem sc_sights_at:FnScope ["things", "p", "sights", "thing", "seen"] ["things", "p"] (defScope s_sights_at):=⟨rfl,rfl,rfl,by decide +kernel,rfl,by decide +kernel,by decide +kernel⟩
theorem sc_colour_seen:FnScope ["things", "p", "ground"] ["things", "p", "ground"] (defScope s_colour_seen):=⟨rfl,rfl,rfl,by decide +kernel,rfl,by decide +kernel,by decide +kernel⟩
theorem sc_law:FnScope ["_law_script", "_law_things_here", "_law_draws_here", "_law_ground", "_law_k", "_law_number", "_law_point", "_law_deep", "_law_across", "_law_handed", "_law_found"] ["_law_script"] (defScope s_law):=⟨rfl,rfl,rfl,by decide +kernel,rfl,by decide +kernel,by decide +kernel⟩
structure Txt (K:W.Frag) (mg:Str → Option Value):Prop where
 z_abs:mg "abs" = none
 z_all:mg "all" = none
 z_bool:mg "bool" = none
 z_enumerate:mg "enumerate" = none
 z_int:mg "int" = none
 z_isinstance:mg "isinstance" = none
 z_len:mg "len" = none
 z_list:mg "list" = none
 z_range:mg "range" = none
 z_tuple:mg "tuple" = none
 z_zip:mg "zip" = none
 g_MOST_VALUES:∃ tk,mg "MOST_VALUES" = some (.int 3 tk)
 t_COUNTS:GTup K mg "COUNTS" [1,2,4,8,16]
 e_BadPattern:∃ C,mg "BadPattern" = some (.ref C) ∧ W.excIn K C veMro "ValueError.__new__" = true
 e_BadThing:∃ C,mg "BadThing" = some (.ref C) ∧ W.excIn K C veMro "ValueError.__new__" = true
 e_BadTriangle:∃ C,mg "BadTriangle" = some (.ref C) ∧ W.excIn K C veMro "ValueError.__new__" = true
 f_colour:FldOk K mg objs "colour"
 f_part:FldOk K mg objs "part"
 f_pattern:FldOk K mg objs "pattern"
 f_triangle:FldOk K mg objs "triangle"
section
variable {P:Program} {w:World} {K:W.Frag} {mg:Str → Option Value} {base:Heap}
theorem ok__law_cell_at (T:Txt K mg) (D:Def K mg "_law_cell_at" s__law_cell_at ["_law_script", "_law_k"])  : Cal P w K mg base 1  "_law_cell_at" ["_law_script", "_law_k"] m__law_cell_at:=by
 exact D.cal sc__law_cell_at (fun f cdv A outer s H E hr=>⟨_,(dss_cons (ds_if (dt_lt (d_v 1) (d_cb call_len_seq callD_len rfl T.z_len bt_len (da_cons (d_v 0) da_nil)))
  (dss_one (ds_ret (d_ix (d_v 0) (d_v 1))))
  dss_nil)
  (dss_one (ds_ret d_int)))⟩)
theorem om_Glass__colour_at {f:Addr} {fd:FuncData} (T:Txt K mg) (F:Fun K "colour_at" "Glass.colour_at" s_Glass__colour_at f fd)  : FnOk P w K mg base (CXR P w) 1 f fd ["self", "values"] (spD K mg 2 m_Glass__colour_at):=by
 exact okM F sc_Glass__colour_at (fun cdv A outer s H E hr=>⟨_,(dss_one (ds_ret (d_fld T.f_colour (d_v 0))))⟩)
theorem ok_down (T:Txt K mg) (D:Def K mg "down" s_down ["one"])  : Cal P w K mg base 1  "down" ["one"] m_down:=by
 exact D.cal sc_down (fun f cdv A outer s H E hr=>⟨_,(dss_one (ds_ret (d_div (d_ix (d_v 0) d_int) (d_ix (d_v 0) d_int))))⟩)
theorem ok_entry_at (T:Txt K mg) (D:Def K mg "entry_at" s_entry_at ["pattern", "u", "v"]) (c_down:Cal P w K mg base 1  "down" ["one"] m_down):Cal P w K mg base 2  "entry_at" ["pattern", "u", "v"] m_entry_at:=by
 exact D.cal sc_entry_at (fun f cdv A outer s H E hr=>⟨_,(dss_cons (ds_set (i:=3) sc_entry_at.nd rfl (Or.inl rfl) (d_ix (d_v 0) (d_mod (d_call c_down hr (by decide) rfl pass_on (da_cons (d_v 2) da_nil)) (d_cb call_len_seq callD_len rfl T.z_len bt_len (da_cons (d_v 0) da_nil)))))
  (dss_one (ds_ret (d_ix (d_v 3) (d_mod (d_call c_down hr (by decide) rfl pass_on (da_cons (d_v 1) da_nil)) (d_cb call_len_seq callD_len rfl T.z_len bt_len (da_cons (d_v 3) da_nil)))))))⟩)
theorem om_Patterned__colour_at {f:Addr} {fd:FuncData} (T:Txt K mg) (F:Fun K "colour_at" "Patterned.colour_at" s_Patterned__colour_at f fd) (c_entry_at:Cal P w K mg base 2  "entry_at" ["pattern", "u", "v"] m_entry_at):FnOk P w K mg base (CXR P w) 3 f fd ["self", "values"] (spD K mg 2 m_Patterned__colour_at):=by
 exact okM F sc_Patterned__colour_at (fun cdv A outer s H E hr=>⟨_,(dss_one (ds_ret (d_call c_entry_at hr (by decide) rfl pass_on (da_cons (d_fld T.f_pattern (d_v 0)) (da_cons (d_ix (d_v 1) d_int) (da_cons (d_ix (d_v 1) d_int) da_nil))))))⟩)
theorem om_Plain__colour_at {f:Addr} {fd:FuncData} (T:Txt K mg) (F:Fun K "colour_at" "Plain.colour_at" s_Plain__colour_at f fd)  : FnOk P w K mg base (CXR P w) 1 f fd ["self", "values"] (spD K mg 2 m_Plain__colour_at):=by
 exact okM F sc_Plain__colour_at (fun cdv A outer s H E hr=>⟨_,(dss_one (ds_ret (d_fld T.f_colour (d_v 0))))⟩)
theorem om_Shaded__colour_at {f:Addr} {fd:FuncData} (T:Txt K mg) (F:Fun K "colour_at" "Shaded.colour_at" s_Shaded__colour_at f fd)  : FnOk P w K mg base (CXR P w) 1 f fd ["self", "values"] (spD K mg 2 m_Shaded__colour_at):=by
 exact okM F sc_Shaded__colour_at (fun cdv A outer s H E hr=>⟨_,(dss_one (ds_ret (d_ix (d_v 1) d_int)))⟩)
theorem om_Glass__is_glass {f:Addr} {fd:FuncData} (T:Txt K mg) (F:Fun K "is_glass" "Glass.is_glass" s_Glass__is_glass f fd)  : FnOk P w K mg base (CXR P w) 1 f fd ["self"] (spD K mg 1 m_Glass__is_glass):=by
 exact okM F sc_Glass__is_glass (fun cdv A outer s H E hr=>⟨_,(dss_one (ds_ret d_bl))⟩)
theorem om_Thing__is_glass {f:Addr} {fd:FuncData} (T:Txt K mg) (F:Fun K "is_glass" "Thing.is_glass" s_Thing__is_glass f fd)  : FnOk P w K mg base (CXR P w) 1 f fd ["self"] (spD K mg 1 m_Thing__is_glass):=by
 exact okM F sc_Thing__is_glass (fun cdv A outer s H E hr=>⟨_,(dss_one (ds_ret d_bl))⟩)
theorem ok__law_less (T:Txt K mg) (D:Def K mg "_law_less" s__law_less ["_law_one", "_law_other"])  : Cal P w K mg base 1  "_law_less" ["_law_one", "_law_other"] m__law_less:=by
 exact D.cal sc__law_less (fun f cdv A outer s H E hr=>⟨_,(dss_one (ds_ret (d_lt (d_mul (d_ix (d_v 0) d_int) (d_ix (d_v 1) d_int)) (d_mul (d_ix (d_v 1) d_int) (d_ix (d_v 0) d_int)))))⟩)
theorem ok_greatest_divisor (T:Txt K mg) (D:Def K mg "greatest_divisor" s_greatest_divisor ["numbers"])  : Cal P w K mg base 1  "greatest_divisor" ["numbers"] m_greatest_divisor:=by
 exact D.cal sc_greatest_divisor (fun f cdv A outer s H E hr=>⟨_,(dss_cons (ds_set (i:=1) sc_greatest_divisor.nd rfl (Or.inl rfl) d_int)
  (dss_cons (ds_for PassesOwn.leaving rfl (di_seq (d_v 0)) (dg_name (i:=2) sc_greatest_divisor.nd rfl (Or.inl rfl) (by decide))
  (dss_cons (ds_set (i:=3) sc_greatest_divisor.nd rfl (Or.inl rfl) (d_cb call_abs callD_abs rfl T.z_abs bt_abs (da_cons (d_v 2) da_nil)))
  (dss_one (ds_whl PassesOwn.leaving (dt_ne hr (d_v 3) d_int)
  (dss_cons (ds_set (i:=4) sc_greatest_divisor.nd rfl (Or.inl rfl) (d_mod (d_v 1) (d_v 3)))
  (dss_cons (ds_set (i:=1) sc_greatest_divisor.nd rfl (Or.inl rfl) (d_v 3))
  (dss_one (ds_set (i:=3) sc_greatest_divisor.nd rfl (Or.inl rfl) (d_v 4)))))))))
  (dss_one (ds_ret (d_v 1)))))⟩)
theorem ok_ratio (T:Txt K mg) (D:Def K mg "ratio" s_ratio ["top", "bottom"]) (c_greatest_divisor:Cal P w K mg base 1  "greatest_divisor" ["numbers"] m_greatest_divisor):Cal P w K mg base 2  "ratio" ["top", "bottom"] m_ratio:=by
 exact D.cal sc_ratio (fun f cdv A outer s H E hr=>⟨_,(dss_cons (ds_set (i:=2) sc_ratio.nd rfl (Or.inl rfl) (d_call c_greatest_divisor hr (by decide) rfl pass_on (da_cons (d_lst (da_cons (d_v 0) (da_cons (d_v 1) da_nil))) da_nil)))
  (dss_cons (ds_if (dt_lt (d_v 1) d_int)
  (dss_one (ds_set (i:=2) sc_ratio.nd rfl (Or.inl rfl) (d_neg (d_v 2))))
  dss_nil)
  (dss_one (ds_ret (d_tup (da_cons (d_div (d_v 0) (d_v 2)) (da_cons (d_div (d_v 1) (d_v 2)) da_nil)))))))⟩)
theorem ok_summed_products (T:Txt K mg) (D:Def K mg "summed_products" s_summed_products ["three", "other"])  : Cal P w K mg base 1  "summed_products" ["three", "other"] m_summed_products:=by
 exact D.cal sc_summed_products (fun f cdv A outer s H E hr=>⟨_,(dss_one (ds_ret (d_add (d_add (d_mul (d_ix (d_v 0) d_int) (d_ix (d_v 1) d_int)) (d_mul (d_ix (d_v 0) d_int) (d_ix (d_v 1) d_int))) (d_mul (d_ix (d_v 0) d_int) (d_ix (d_v 1) d_int)))))⟩)
theorem ok_weighed_h (T:Txt K mg) (D:Def K mg "weighed_h" s_weighed_h ["triangle", "amounts"]) (c_summed_products:Cal P w K mg base 1  "summed_products" ["three", "other"] m_summed_products):Cal P w K mg base 2  "weighed_h" ["triangle", "amounts"] m_weighed_h:=by
 exact D.cal sc_weighed_h (fun f cdv A outer s H E hr=>⟨_,(dss_one (ds_ret (d_call c_summed_products hr (by decide) rfl pass_on (da_cons (d_comp (own:=["corner"]) (cap:=[]) (di_seq (d_v 0)) (CompOk.of rfl rfl (by kernel_rfl) rfl trivial trivial) rfl (fun _ _ _ _ _=>(dg_name (i:=0) (show List.Nodup (["corner"]:List Str) by decide +kernel) rfl (Or.inl rfl) (by decide))) (fun _ _ _ _ _=>dts_nil) (fun _ _ _ _ _=>(d_ix (d_v 0) d_int))) (da_cons (d_v 1) da_nil)))))⟩)
theorem ok_depth_and_values (T:Txt K mg) (D:Def K mg "depth_and_values" s_depth_and_values ["triangle", "amounts"]) (c_ratio:Cal P w K mg base 2  "ratio" ["top", "bottom"] m_ratio) (c_summed_products:Cal P w K mg base 1  "summed_products" ["three", "other"] m_summed_products) (c_weighed_h:Cal P w K mg base 2  "weighed_h" ["triangle", "amounts"] m_weighed_h):Cal P w K mg base 3  "depth_and_values" ["triangle", "amounts"] m_depth_and_values:=by
 exact D.cal sc_depth_and_values (fun f cdv A outer s H E hr=>⟨_,(dss_cons (ds_set (i:=2) sc_depth_and_values.nd rfl (Or.inr rfl) (d_call c_weighed_h hr (by decide) rfl pass_on (da_cons (d_v 0) (da_cons (d_v 1) da_nil))))
  (dss_cons (ds_set (i:=3) sc_depth_and_values.nd rfl (Or.inl rfl) (d_call c_ratio hr (by decide) rfl pass_on (da_cons (d_call c_summed_products hr (by decide) rfl pass_on (da_cons (d_comp (own:=["corner"]) (cap:=[]) (di_seq (d_v 0)) (CompOk.of rfl rfl (by kernel_rfl) rfl trivial trivial) rfl (fun _ _ _ _ _=>(dg_name (i:=0) (show List.Nodup (["corner"]:List Str) by decide +kernel) rfl (Or.inl rfl) (by decide))) (fun _ _ _ _ _=>dts_nil) (fun _ _ _ _ _=>(d_ix (d_v 0) d_int))) (da_cons (d_v 1) da_nil))) (da_cons (d_v 2) da_nil))))
  (dss_cons (ds_set (i:=4) sc_depth_and_values.nd rfl (Or.inl rfl) (d_lz rfl rfl T.z_zip rfl T.z_list (da_cons (d_ix (d_ix (d_v 0) d_int) d_int) (da_cons (d_ix (d_ix (d_v 0) d_int) d_int) (da_cons (d_ix (d_ix (d_v 0) d_int) d_int) da_nil)))))
  (dss_one (ds_ret (d_tup (da_cons (d_v 3) (da_cons (d_ct call_tuple_of callD_tuple rfl T.z_tuple bt_tuple (da_cons (d_comp (own:=["three"]) (cap:=[("bottom", 2),("amounts", 1)]) (di_seq (d_v 4)) (CompOk.of rfl rfl (by kernel_rfl) rfl ⟨rfl,rfl,trivial⟩ ⟨rfl,rfl,trivial⟩) rfl (fun _ _ _ _ _=>(dg_name (i:=0) (show List.Nodup (["three", "bottom", "amounts"]:List Str) by decide +kernel) rfl (Or.inl rfl) (by decide))) (fun _ _ _ _ _=>dts_nil) (fun _ _ _ _ _=>(d_callC c_ratio hr (by decide) rfl (da_cons (d_callC c_summed_products hr (by decide) rfl (da_cons (d_v 0) (da_cons (d_v 2) da_nil))) (da_cons (d_v 1) da_nil))))) da_nil)) da_nil))))))))⟩)
theorem ok_check_before_eye (T:Txt K mg) (D:Def K mg "check_before_eye" s_check_before_eye ["corners"])  : Cal P w K mg base 1  "check_before_eye" ["corners"] m_check_before_eye:=by
 obtain ⟨C_BadTriangle,m_BadTriangle,q_BadTriangle⟩:=T.e_BadTriangle
 exact D.cal sc_check_before_eye (fun f cdv A outer s H E hr=>⟨_,(dss_one (ds_for PassesOwn.leaving rfl (di_seq (d_v 0)) (dg_name (i:=1) sc_check_before_eye.nd rfl (Or.inl rfl) (by decide))
  (dss_one (ds_if (dt_le (d_ix (d_v 1) d_int) d_int)
  (dss_one (ds_rse rfl m_BadTriangle q_BadTriangle (da_cons d_str da_nil)))
  dss_nil))))⟩)
theorem ok_edge_numbers (T:Txt K mg) (D:Def K mg "edge_numbers" s_edge_numbers ["one", "other"])  : Cal P w K mg base 1  "edge_numbers" ["one", "other"] m_edge_numbers:=by
 exact D.cal sc_edge_numbers (fun f cdv A outer s H E hr=>⟨_,(dss_one (ds_ret (d_tup (da_cons (d_sub (d_mul (d_ix (d_v 0) d_int) (d_ix (d_v 1) d_int)) (d_mul (d_ix (d_v 0) d_int) (d_ix (d_v 1) d_int))) (da_cons (d_sub (d_mul (d_ix (d_v 0) d_int) (d_ix (d_v 1) d_int)) (d_mul (d_ix (d_v 0) d_int) (d_ix (d_v 1) d_int))) (da_cons (d_sub (d_mul (d_ix (d_v 0) d_int) (d_ix (d_v 1) d_int)) (d_mul (d_ix (d_v 0) d_int) (d_ix (d_v 1) d_int))) da_nil))))))⟩)
theorem ok_side (T:Txt K mg) (D:Def K mg "side" s_side ["one", "other", "point"]) (c_summed_products:Cal P w K mg base 1  "summed_products" ["three", "other"] m_summed_products) (c_edge_numbers:Cal P w K mg base 1  "edge_numbers" ["one", "other"] m_edge_numbers):Cal P w K mg base 2  "side" ["one", "other", "point"] m_side:=by
 exact D.cal sc_side (fun f cdv A outer s H E hr=>⟨_,(dss_cons (ds_set (i:=3) sc_side.nd rfl (Or.inl rfl) (d_call c_edge_numbers hr (by decide) rfl pass_on (da_cons (d_v 0) (da_cons (d_v 1) da_nil))))
  (dss_cons (ds_for PassesOwn.leaving rfl (di_seq (d_tup (da_cons (d_call c_summed_products hr (by decide) rfl pass_on (da_cons (d_v 3) (da_cons (d_v 2) da_nil))) (da_cons (d_ix (d_v 3) d_int) (da_cons (d_ix (d_v 3) d_int) da_nil))))) (dg_name (i:=4) sc_side.nd rfl (Or.inl rfl) (by decide))
  (dss_one (ds_if (dt_ne hr (d_v 4) d_int)
  (dss_one (ds_ret (d_ife (dt_gt (d_v 4) d_int) d_int (d_neg d_int))))
  dss_nil)))
  (dss_one (ds_ret d_int))))⟩)
theorem ok_had (T:Txt K mg) (D:Def K mg "had" s_had ["triangle", "point"]) (c_check_before_eye:Cal P w K mg base 1  "check_before_eye" ["corners"] m_check_before_eye) (c_side:Cal P w K mg base 2  "side" ["one", "other", "point"] m_side):Cal P w K mg base 3  "had" ["triangle", "point"] m_had:=by
 exact D.cal sc_had (fun f cdv A outer s H E hr=>⟨_,(dss_cons (ds_drp (d_call c_check_before_eye hr (by decide) rfl pass_on (da_cons (d_v 0) da_nil)))
  (dss_cons (ds_set (i:=2) sc_had.nd rfl (Or.inl rfl) (d_call c_side hr (by decide) rfl pass_on (da_cons (d_ix (d_v 0) d_int) (da_cons (d_ix (d_v 0) d_int) (da_cons (d_v 1) da_nil)))))
  (dss_cons (ds_if (DW.dt (dw_or (dt_ne hr (d_call c_side hr (by decide) rfl pass_on (da_cons (d_ix (d_v 0) d_int) (da_cons (d_ix (d_v 0) d_int) (da_cons (d_v 1) da_nil)))) (d_v 2)) (dw_or1 (dt_ne hr (d_call c_side hr (by decide) rfl pass_on (da_cons (d_ix (d_v 0) d_int) (da_cons (d_ix (d_v 0) d_int) (da_cons (d_v 1) da_nil)))) (d_v 2)))))
  (dss_one (ds_ret d_int))
  dss_nil)
  (dss_one (ds_ret (d_v 2))))))⟩)
theorem ok_edge_sum (T:Txt K mg) (D:Def K mg "edge_sum" s_edge_sum ["one", "other", "point"]) (c_summed_products:Cal P w K mg base 1  "summed_products" ["three", "other"] m_summed_products) (c_edge_numbers:Cal P w K mg base 1  "edge_numbers" ["one", "other"] m_edge_numbers):Cal P w K mg base 2  "edge_sum" ["one", "other", "point"] m_edge_sum:=by
 exact D.cal sc_edge_sum (fun f cdv A outer s H E hr=>⟨_,(dss_one (ds_ret (d_call c_summed_products hr (by decide) rfl pass_on (da_cons (d_call c_edge_numbers hr (by decide) rfl pass_on (da_cons (d_v 0) (da_cons (d_v 1) da_nil))) (da_cons (d_v 2) da_nil)))))⟩)
theorem ok_weights (T:Txt K mg) (D:Def K mg "weights" s_weights ["triangle", "point"]) (c_edge_sum:Cal P w K mg base 2  "edge_sum" ["one", "other", "point"] m_edge_sum):Cal P w K mg base 3  "weights" ["triangle", "point"] m_weights:=by
 exact D.cal sc_weights (fun f cdv A outer s H E hr=>⟨_,(dss_one (ds_ret (d_tup (da_cons (d_call c_edge_sum hr (by decide) rfl pass_on (da_cons (d_ix (d_v 0) d_int) (da_cons (d_ix (d_v 0) d_int) (da_cons (d_v 1) da_nil)))) (da_cons (d_call c_edge_sum hr (by decide) rfl pass_on (da_cons (d_ix (d_v 0) d_int) (da_cons (d_ix (d_v 0) d_int) (da_cons (d_v 1) da_nil)))) (da_cons (d_call c_edge_sum hr (by decide) rfl pass_on (da_cons (d_ix (d_v 0) d_int) (da_cons (d_ix (d_v 0) d_int) (da_cons (d_v 1) da_nil)))) da_nil))))))⟩)
theorem ok_seen_at (T:Txt K mg) (D:Def K mg "seen_at" s_seen_at ["triangle", "point"]) (c_depth_and_values:Cal P w K mg base 3  "depth_and_values" ["triangle", "amounts"] m_depth_and_values) (c_had:Cal P w K mg base 3  "had" ["triangle", "point"] m_had) (c_weights:Cal P w K mg base 3  "weights" ["triangle", "point"] m_weights):Cal P w K mg base 4  "seen_at" ["triangle", "point"] m_seen_at:=by
 exact D.cal sc_seen_at (fun f cdv A outer s H E hr=>⟨_,(dss_cons (ds_if (dt_eq hr (d_call c_had hr (by decide) rfl pass_on (da_cons (d_v 0) (da_cons (d_v 1) da_nil))) d_int)
  (dss_one (ds_ret d_non))
  dss_nil)
  (dss_one (ds_ret (d_call c_depth_and_values hr (by decide) rfl pass_on (da_cons (d_v 0) (da_cons (d_call c_weights hr (by decide) rfl pass_on (da_cons (d_v 0) (da_cons (d_v 1) da_nil))) da_nil))))))⟩)
theorem ok__law_sights (T:Txt K mg) (D:Def K mg "_law_sights" s__law_sights ["_law_things_here", "_law_point"]) (c__law_less:Cal P w K mg base 1  "_law_less" ["_law_one", "_law_other"] m__law_less) (c_seen_at:Cal P w K mg base 4  "seen_at" ["triangle", "point"] m_seen_at):Cal P w K mg base 5  "_law_sights" ["_law_things_here", "_law_point"] m__law_sights:=by
 exact D.cal sc__law_sights (fun f cdv A outer s H E hr=>⟨_,(dss_cons (ds_setO (i:=2) sc__law_sights.nd rfl (Or.inl rfl) da_nil)
  (dss_cons (ds_for PassesOwn.leaving rfl (di_enumerate rfl T.z_enumerate (da_cons (d_v 0) da_nil)) (dg_tup rfl (dgs_cons (dg_name (i:=3) sc__law_sights.nd rfl (Or.inl rfl) (by decide)) (dgs_cons (dg_name (i:=4) sc__law_sights.nd rfl (Or.inl rfl) (by decide)) dgs_nil)))
  (dss_cons (ds_set (i:=5) sc__law_sights.nd rfl (Or.inl rfl) (d_call c_seen_at hr (by decide) rfl pass_on (da_cons (d_fld T.f_triangle (d_v 4)) (da_cons (d_v 1) da_nil))))
  (dss_one (ds_if (dt_notN (d_v 5))
  (dss_cons (ds_set (i:=6) sc__law_sights.nd rfl (Or.inl rfl) d_int)
  (dss_cons (ds_whl PassesOwn.leaving (dt_pk 2 (DW.dt (dw_and (dt_lt (d_v 6) (d_cb call_len_seq callD_len rfl T.z_len bt_len (da_cons (d_v 2) da_nil))) (dw_and1 (dt_not (dt_val (d_call c__law_less hr (by decide) rfl pass_on (da_cons (d_ix (d_v 5) d_int) (da_cons (d_ix (d_ix (d_v 2) (d_v 6)) d_int) da_nil)))))))))
  (dss_one (ds_set (i:=6) sc__law_sights.nd rfl (Or.inl rfl) (d_add (d_v 6) d_int))))
  (dss_one (ds_ins 2 (d_v 6) (d_tup (da_cons (d_ix (d_v 5) d_int) (da_cons (d_v 3) (da_cons (d_v 4) (da_cons (d_ix (d_v 5) d_int) da_nil)))))))))
  dss_nil))))
  (dss_one (ds_frz (ds_ret (d_v 2))))))⟩)
theorem ok__law_colour (T:Txt K mg) (D:Def K mg "_law_colour" s__law_colour ["_law_things_here", "_law_point", "_law_ground"]) (cm_colour_at:MethOk P w K mg base 3 1 "colour_at" tab_colour_at) (cm_is_glass:MethOk P w K mg base 1 0 "is_glass" tab_is_glass) (c__law_less:Cal P w K mg base 1  "_law_less" ["_law_one", "_law_other"] m__law_less) (c_ratio:Cal P w K mg base 2  "ratio" ["top", "bottom"] m_ratio) (c__law_sights:Cal P w K mg base 5  "_law_sights" ["_law_things_here", "_law_point"] m__law_sights):Cal P w K mg base 6  "_law_colour" ["_law_things_here", "_law_point", "_law_ground"] m__law_colour:=by
 exact D.cal sc__law_colour (fun f cdv A outer s H E hr=>⟨_,(dss_cons (ds_set (i:=3) sc__law_colour.nd rfl (Or.inl rfl) (d_call c__law_sights hr (by decide) rfl pass_on (da_cons (d_v 0) (da_cons (d_v 1) da_nil))))
  (dss_cons (ds_set (i:=4) sc__law_colour.nd rfl (Or.inr rfl) (d_cut (d_comp (own:=["_law_row"]) (cap:=[]) (di_seq (d_v 3)) (CompOk.of rfl rfl (by kernel_rfl) rfl trivial trivial) rfl (fun _ _ _ _ _=>(dg_name (i:=0) (show List.Nodup (["_law_row"]:List Str) by decide +kernel) rfl (Or.inl rfl) (by decide))) (fun _ _ _ _ _=>dts_one (dt_not (dt_val (d_meth0C cm_is_glass hr (by decide) (d_ix (d_v 0) d_int))))) (fun _ _ _ _ _=>(d_v 0))) do_none (do_some d_int)))
  (dss_cons (ds_set (i:=5) sc__law_colour.nd rfl (Or.inl rfl) (d_v 2))
  (dss_cons (ds_setC (i:=6) sc__law_colour.nd rfl (Or.inl rfl) (own:=["_law_row"]) (cap:=[]) (di_seq (d_v 3)) (CompOk.of rfl rfl (by kernel_rfl) rfl trivial trivial) rfl (fun _ _ _ _ _=>(dg_name (i:=0) (show List.Nodup (["_law_row"]:List Str) by decide +kernel) rfl (Or.inl rfl) (by decide))) (fun _ _ _ _ _=>dts_one (dt_val (d_meth0C cm_is_glass hr (by decide) (d_ix (d_v 0) d_int)))) (fun _ _ _ _ _=>(d_v 0)))
  (dss_cons (ds_if (dt_neNil hr (d_v 4) (d_lst da_nil))
  (dss_cons (ds_set (i:=5) sc__law_colour.nd rfl (Or.inl rfl) (d_meth cm_colour_at hr (by decide) pass_on (d_ix (d_ix (d_v 4) d_int) d_int) (da_cons (d_ix (d_ix (d_v 4) d_int) d_int) da_nil)))
  (dss_one (ds_setC (i:=6) sc__law_colour.nd rfl (Or.inl rfl) (own:=["_law_row"]) (cap:=[("_law_solid", 4)]) (di_seq (d_v 6)) (CompOk.of rfl rfl (by kernel_rfl) rfl ⟨rfl,trivial⟩ ⟨rfl,trivial⟩) rfl (fun _ _ _ _ _=>(dg_name (i:=0) (show List.Nodup (["_law_row", "_law_solid"]:List Str) by decide +kernel) rfl (Or.inl rfl) (by decide))) (fun _ _ _ _ _=>dts_one (dt_val (d_callC c__law_less hr (by decide) rfl (da_cons (d_ix (d_v 0) d_int) (da_cons (d_ix (d_ix (d_v 1) d_int) d_int) da_nil))))) (fun _ _ _ _ _=>(d_v 0)))))
  dss_nil)
  (dss_cons (ds_for PassesOwn.leaving rfl (di_seq (d_rev (d_v 6) (d_neg d_int))) (dg_tup rfl (dgs_cons (dg_name (i:=7) sc__law_colour.nd rfl (Or.inl rfl) (by decide)) (dgs_cons (dg_name (i:=8) sc__law_colour.nd rfl (Or.inl rfl) (by decide)) (dgs_cons (dg_name (i:=9) sc__law_colour.nd rfl (Or.inl rfl) (by decide)) (dgs_cons (dg_name (i:=10) sc__law_colour.nd rfl (Or.inl rfl) (by decide)) dgs_nil)))))
  (dss_cons (ds_set (i:=11) sc__law_colour.nd rfl (Or.inl rfl) (d_fld T.f_part (d_v 9)))
  (dss_cons (ds_set (i:=12) sc__law_colour.nd rfl (Or.inl rfl) (d_fld T.f_colour (d_v 9)))
  (dss_cons (ds_set (i:=13) sc__law_colour.nd rfl (Or.inl rfl) (d_add (d_mul (d_mul (d_ix (d_v 11) d_int) (d_ix (d_v 12) d_int)) (d_ix (d_v 5) d_int)) (d_mul (d_mul (d_sub (d_ix (d_v 11) d_int) (d_ix (d_v 11) d_int)) (d_ix (d_v 5) d_int)) (d_ix (d_v 12) d_int))))
  (dss_one (ds_set (i:=5) sc__law_colour.nd rfl (Or.inl rfl) (d_call c_ratio hr (by decide) rfl pass_on (da_cons (d_v 13) (da_cons (d_mul (d_mul (d_ix (d_v 11) d_int) (d_ix (d_v 12) d_int)) (d_ix (d_v 5) d_int)) da_nil)))))))))
  (dss_one (ds_ret (d_v 5)))))))))⟩)
theorem ok__law_mixed (T:Txt K mg) (D:Def K mg "_law_mixed" s__law_mixed ["_law_cell", "_law_k"])  : Cal P w K mg base 1  "_law_mixed" ["_law_cell", "_law_k"] m__law_mixed:=by
 exact D.cal sc__law_mixed (fun f cdv A outer s H E hr=>⟨_,(dss_cons (ds_if (DW.dt (dw_and (dt_ge (d_v 0) (d_shl d_int d_int)) (dw_and (dt_eq hr (d_mod (d_v 0) d_int) d_int) (dw_and1 (dt_gt (d_shr (d_v 0) (d_add d_int (d_mul d_int (d_v 1)))) d_int)))))
  (dss_one (ds_ret (d_mod (d_shr (d_v 0) (d_add d_int (d_mul d_int (d_v 1)))) d_int)))
  dss_nil)
  (dss_cons (ds_set (i:=2) sc__law_mixed.nd rfl (Or.inl rfl) (d_mod (d_mul (d_add (d_add (d_v 0) (d_mul d_int (d_v 1))) d_int) d_int) d_int))
  (dss_cons (ds_set (i:=2) sc__law_mixed.nd rfl (Or.inl rfl) (d_mod (d_mul (d_v 2) (d_add (d_div (d_v 2) d_int) d_int)) d_int))
  (dss_one (ds_ret (d_mod (d_mul (d_v 2) (d_add (d_add (d_div (d_v 2) d_int) d_int) (d_v 1))) d_int))))))⟩)
theorem ok__law_draws (T:Txt K mg) (D:Def K mg "_law_draws" s__law_draws ["_law_cell", "_law_many"]) (c__law_mixed:Cal P w K mg base 1  "_law_mixed" ["_law_cell", "_law_k"] m__law_mixed):Cal P w K mg base 2  "_law_draws" ["_law_cell", "_law_many"] m__law_draws:=by
 exact D.cal sc__law_draws (fun f cdv A outer s H E hr=>⟨_,(dss_one (ds_ret (d_comp (own:=["_law_k"]) (cap:=[("_law_cell", 0)]) (di_r1 rfl T.z_range (da_cons (d_v 1) da_nil)) (CompOk.of rfl rfl (by kernel_rfl) rfl ⟨rfl,trivial⟩ ⟨rfl,trivial⟩) rfl (fun _ _ _ _ _=>(dg_name (i:=0) (show List.Nodup (["_law_k", "_law_cell"]:List Str) by decide +kernel) rfl (Or.inl rfl) (by decide))) (fun _ _ _ _ _=>dts_nil) (fun _ _ _ _ _=>(d_callC c__law_mixed hr (by decide) rfl (da_cons (d_v 1) (da_cons (d_v 0) da_nil)))))))⟩)
theorem om_Glass__word {f:Addr} {fd:FuncData} (T:Txt K mg) (F:Fun K "word" "Glass.word" s_Glass__word f fd)  : FnOk P w K mg base (CXR P w) 1 f fd ["self"] (spD K mg 1 m_Glass__word):=by
 exact okM F sc_Glass__word (fun cdv A outer s H E hr=>⟨_,(dss_one (ds_ret d_str))⟩)
theorem om_Patterned__word {f:Addr} {fd:FuncData} (T:Txt K mg) (F:Fun K "word" "Patterned.word" s_Patterned__word f fd)  : FnOk P w K mg base (CXR P w) 1 f fd ["self"] (spD K mg 1 m_Patterned__word):=by
 exact okM F sc_Patterned__word (fun cdv A outer s H E hr=>⟨_,(dss_one (ds_ret d_str))⟩)
theorem om_Plain__word {f:Addr} {fd:FuncData} (T:Txt K mg) (F:Fun K "word" "Plain.word" s_Plain__word f fd)  : FnOk P w K mg base (CXR P w) 1 f fd ["self"] (spD K mg 1 m_Plain__word):=by
 exact okM F sc_Plain__word (fun cdv A outer s H E hr=>⟨_,(dss_one (ds_ret d_str))⟩)
theorem om_Shaded__word {f:Addr} {fd:FuncData} (T:Txt K mg) (F:Fun K "word" "Shaded.word" s_Shaded__word f fd)  : FnOk P w K mg base (CXR P w) 1 f fd ["self"] (spD K mg 1 m_Shaded__word):=by
 exact okM F sc_Shaded__word (fun cdv A outer s H E hr=>⟨_,(dss_one (ds_ret d_str))⟩)
theorem ok_is_whole (T:Txt K mg) (D:Def K mg "is_whole" s_is_whole ["thing"])  : Cal P w K mg base 1  "is_whole" ["thing"] m_is_whole:=by
 exact D.cal sc_is_whole (fun f cdv A outer s H E hr=>⟨_,(dss_one (ds_ret (d_and (d_cb call_isiD callD_isi rfl T.z_isinstance bt_isinstance (da_cons (d_v 0) (da_cons (d_ty rfl T.z_int bt_int) da_nil))) (d_one (d_not (d_cb call_isiD callD_isi rfl T.z_isinstance bt_isinstance (da_cons (d_v 0) (da_cons (d_ty rfl T.z_bool bt_bool) da_nil))))))))⟩)
theorem ok_are_values (T:Txt K mg) (D:Def K mg "are_values" s_are_values ["thing"]) (c_is_whole:Cal P w K mg base 1  "is_whole" ["thing"] m_is_whole):Cal P w K mg base 2  "are_values" ["thing"] m_are_values:=by
 obtain ⟨tk_MOST_VALUES,g_MOST_VALUES⟩:=T.g_MOST_VALUES
 exact D.cal sc_are_values (fun f cdv A outer s H E hr=>⟨_,(dss_cons (ds_if (DW.dt (dw_or (dt_not (dt_val (d_cb call_isiD callD_isi rfl T.z_isinstance bt_isinstance (da_cons (d_v 0) (da_cons (d_ty rfl T.z_tuple bt_tuple) da_nil))))) (dw_or1 (dt_gt (d_cb call_len_seq callD_len rfl T.z_len bt_len (da_cons (d_v 0) da_nil)) (d_gi rfl g_MOST_VALUES)))))
  (dss_one (ds_ret d_bl))
  dss_nil)
  (dss_one (ds_ret (d_cb (call_allD rfl) callD_all rfl T.z_all bt_all (da_cons (d_comp (own:=["number"]) (cap:=[]) (di_seq (d_v 0)) (CompOk.of rfl rfl (by kernel_rfl) rfl trivial trivial) rfl (fun _ _ _ _ _=>(dg_name (i:=0) (show List.Nodup (["number"]:List Str) by decide +kernel) rfl (Or.inl rfl) (by decide))) (fun _ _ _ _ _=>dts_nil) (fun _ _ _ _ _=>(d_callC c_is_whole hr (by decide) rfl (da_cons (d_v 0) da_nil)))) da_nil)))))⟩)
theorem ok_is_corner (T:Txt K mg) (D:Def K mg "is_corner" s_is_corner ["thing"]) (c_is_whole:Cal P w K mg base 1  "is_whole" ["thing"] m_is_whole) (c_are_values:Cal P w K mg base 2  "are_values" ["thing"] m_are_values):Cal P w K mg base 3  "is_corner" ["thing"] m_is_corner:=by
 exact D.cal sc_is_corner (fun f cdv A outer s H E hr=>⟨_,(dss_cons (ds_if (DW.dt (dw_or (dt_not (dt_val (d_cb call_isiD callD_isi rfl T.z_isinstance bt_isinstance (da_cons (d_v 0) (da_cons (d_ty rfl T.z_tuple bt_tuple) da_nil))))) (dw_or1 (dt_ne hr (d_cb call_len_seq callD_len rfl T.z_len bt_len (da_cons (d_v 0) da_nil)) d_int))))
  (dss_one (ds_ret d_bl))
  dss_nil)
  (dss_cons (ds_if (dt_not (dt_val (d_cb (call_allD rfl) callD_all rfl T.z_all bt_all (da_cons (d_comp (own:=["number"]) (cap:=[]) (di_seq (d_cut (d_v 0) do_none (do_some d_int))) (CompOk.of rfl rfl (by kernel_rfl) rfl trivial trivial) rfl (fun _ _ _ _ _=>(dg_name (i:=0) (show List.Nodup (["number"]:List Str) by decide +kernel) rfl (Or.inl rfl) (by decide))) (fun _ _ _ _ _=>dts_nil) (fun _ _ _ _ _=>(d_callC c_is_whole hr (by decide) rfl (da_cons (d_v 0) da_nil)))) da_nil))))
  (dss_one (ds_ret d_bl))
  dss_nil)
  (dss_one (ds_ret (d_and (d_ge (d_ix (d_v 0) d_int) d_int) (d_one (d_call c_are_values hr (by decide) rfl pass_on (da_cons (d_ix (d_v 0) d_int) da_nil))))))))⟩)
theorem ok_check_triangle (T:Txt K mg) (D:Def K mg "check_triangle" s_check_triangle ["triangle"]) (c_is_corner:Cal P w K mg base 3  "is_corner" ["thing"] m_is_corner):Cal P w K mg base 4  "check_triangle" ["triangle"] m_check_triangle:=by
 obtain ⟨C_BadTriangle,m_BadTriangle,q_BadTriangle⟩:=T.e_BadTriangle
 exact D.cal sc_check_triangle (fun f cdv A outer s H E hr=>⟨_,(dss_cons (ds_if (DW.dt (dw_or (dt_not (dt_val (d_cb call_isiD callD_isi rfl T.z_isinstance bt_isinstance (da_cons (d_v 0) (da_cons (d_ty rfl T.z_tuple bt_tuple) da_nil))))) (dw_or1 (dt_ne hr (d_cb call_len_seq callD_len rfl T.z_len bt_len (da_cons (d_v 0) da_nil)) d_int))))
  (dss_one (ds_rse rfl m_BadTriangle q_BadTriangle (da_cons d_str da_nil)))
  dss_nil)
  (dss_one (ds_for PassesOwn.leaving rfl (di_seq (d_v 0)) (dg_name (i:=1) sc_check_triangle.nd rfl (Or.inl rfl) (by decide))
  (dss_cons (ds_if (dt_not (dt_val (d_call c_is_corner hr (by decide) rfl pass_on (da_cons (d_v 1) da_nil))))
  (dss_one (ds_rse rfl m_BadTriangle q_BadTriangle (da_cons d_str da_nil)))
  dss_nil)
  (dss_one (ds_if (dt_ne hr (d_cb call_len_seq callD_len rfl T.z_len bt_len (da_cons (d_ix (d_v 1) d_int) da_nil)) (d_cb call_len_seq callD_len rfl T.z_len bt_len (da_cons (d_ix (d_ix (d_v 0) d_int) d_int) da_nil)))
  (dss_one (ds_rse rfl m_BadTriangle q_BadTriangle (da_cons d_str da_nil)))
  dss_nil))))))⟩)
theorem oi_Thing {f:Addr} {fd:FuncData} (T:Txt K mg) (F:Fun K "__init__" "Thing.__init__" s_Thing____init__ f fd) (c_check_before_eye:Cal P w K mg base 1  "check_before_eye" ["corners"] m_check_before_eye) (c_check_triangle:Cal P w K mg base 4  "check_triangle" ["triangle"] m_check_triangle):FnOk P w K mg base (CXR P w) 5 f fd ["self", "triangle"] (spI K mg 1 objs i_Thing):=by
 exact okI F sc_Thing____init__ (by decide) rfl (fun cdv A outer s H E hr=>⟨_,(di_drp (d_call c_check_triangle hr (by decide) rfl pass_on (da_cons (d_v 1) da_nil))
  (di_drp (d_call c_check_before_eye hr (by decide) rfl pass_on (da_cons (d_v 1) da_nil))
  (di_set T.f_triangle (d_v 1)
  di_nil)))⟩)
theorem ok_is_fraction (T:Txt K mg) (D:Def K mg "is_fraction" s_is_fraction ["thing"]) (c_greatest_divisor:Cal P w K mg base 1  "greatest_divisor" ["numbers"] m_greatest_divisor) (c_is_whole:Cal P w K mg base 1  "is_whole" ["thing"] m_is_whole):Cal P w K mg base 2  "is_fraction" ["thing"] m_is_fraction:=by
 exact D.cal sc_is_fraction (fun f cdv A outer s H E hr=>⟨_,(dss_cons (ds_if (DW.dt (dw_or (dt_not (dt_val (d_cb call_isiD callD_isi rfl T.z_isinstance bt_isinstance (da_cons (d_v 0) (da_cons (d_ty rfl T.z_tuple bt_tuple) da_nil))))) (dw_or1 (dt_ne hr (d_cb call_len_seq callD_len rfl T.z_len bt_len (da_cons (d_v 0) da_nil)) d_int))))
  (dss_one (ds_ret d_bl))
  dss_nil)
  (dss_cons (ds_if (DW.dt (dw_or (dt_not (dt_val (d_call c_is_whole hr (by decide) rfl pass_on (da_cons (d_ix (d_v 0) d_int) da_nil)))) (dw_or1 (dt_not (dt_val (d_call c_is_whole hr (by decide) rfl pass_on (da_cons (d_ix (d_v 0) d_int) da_nil)))))))
  (dss_one (ds_ret d_bl))
  dss_nil)
  (dss_one (ds_ret (d_and (d_ge (d_ix (d_v 0) d_int) d_int) (d_one (d_eq hr (d_call c_greatest_divisor hr (by decide) rfl pass_on (da_cons (d_v 0) da_nil)) d_int)))))))⟩)
theorem ok_check_colour (T:Txt K mg) (D:Def K mg "check_colour" s_check_colour ["colour"]) (c_is_fraction:Cal P w K mg base 2  "is_fraction" ["thing"] m_is_fraction):Cal P w K mg base 3  "check_colour" ["colour"] m_check_colour:=by
 obtain ⟨C_BadThing,m_BadThing,q_BadThing⟩:=T.e_BadThing
 exact D.cal sc_check_colour (fun f cdv A outer s H E hr=>⟨_,(dss_one (ds_if (dt_not (dt_val (d_call c_is_fraction hr (by decide) rfl pass_on (da_cons (d_v 0) da_nil))))
  (dss_one (ds_rse rfl m_BadThing q_BadThing (da_cons d_str da_nil)))
  dss_nil))⟩)
theorem ok_check_part (T:Txt K mg) (D:Def K mg "check_part" s_check_part ["part"]) (c_is_fraction:Cal P w K mg base 2  "is_fraction" ["thing"] m_is_fraction):Cal P w K mg base 3  "check_part" ["part"] m_check_part:=by
 obtain ⟨C_BadThing,m_BadThing,q_BadThing⟩:=T.e_BadThing
 exact D.cal sc_check_part (fun f cdv A outer s H E hr=>⟨_,(dss_one (ds_if (DW.dt (dw_or (dt_not (dt_val (d_call c_is_fraction hr (by decide) rfl pass_on (da_cons (d_v 0) da_nil)))) (dw_or (dt_lt (d_ix (d_v 0) d_int) d_int) (dw_or1 (dt_gt (d_ix (d_v 0) d_int) (d_ix (d_v 0) d_int))))))
  (dss_one (ds_rse rfl m_BadThing q_BadThing (da_cons d_str da_nil)))
  dss_nil))⟩)
theorem oi_Glass {f:Addr} {fd:FuncData} (T:Txt K mg) (F:Fun K "__init__" "Glass.__init__" s_Glass____init__ f fd) (cs_Thing:CalS P w K mg base 5 "Thing" "__init__" 1 objs i_Thing) (c_check_colour:Cal P w K mg base 3  "check_colour" ["colour"] m_check_colour) (c_check_part:Cal P w K mg base 3  "check_part" ["part"] m_check_part):FnOk P w K mg base (CXR P w) 7 f fd ["self", "triangle", "colour", "part"] (spI K mg 3 objs i_Glass):=by
 exact okI F sc_Glass____init__ (by decide) rfl (fun cdv A outer s H E hr=>⟨_,(di_sup cs_Thing hr (by decide) rfl pass_on (fun _ h=>h) (da_cons (d_v 1) da_nil)
  (di_drp (d_call c_check_colour hr (by decide) rfl pass_on (da_cons (d_v 2) da_nil))
  (di_drp (d_call c_check_part hr (by decide) rfl pass_on (da_cons (d_v 3) da_nil))
  (di_set T.f_colour (d_v 2)
  (di_set T.f_part (d_v 3)
  di_nil)))))⟩)
theorem oi_Plain {f:Addr} {fd:FuncData} (T:Txt K mg) (F:Fun K "__init__" "Plain.__init__" s_Plain____init__ f fd) (cs_Thing:CalS P w K mg base 5 "Thing" "__init__" 1 objs i_Thing) (c_check_colour:Cal P w K mg base 3  "check_colour" ["colour"] m_check_colour):FnOk P w K mg base (CXR P w) 7 f fd ["self", "triangle", "colour"] (spI K mg 2 objs i_Plain):=by
 exact okI F sc_Plain____init__ (by decide) rfl (fun cdv A outer s H E hr=>⟨_,(di_sup cs_Thing hr (by decide) rfl pass_on (fun _ h=>h) (da_cons (d_v 1) da_nil)
  (di_drp (d_call c_check_colour hr (by decide) rfl pass_on (da_cons (d_v 2) da_nil))
  (di_set T.f_colour (d_v 2)
  di_nil)))⟩)
theorem ok_check_values (T:Txt K mg) (D:Def K mg "check_values" s_check_values ["triangle", "least"])  : Cal P w K mg base 1  "check_values" ["triangle", "least"] m_check_values:=by
 exact D.cal sc_check_values (fun f cdv A outer s H E hr=>⟨_,(dss_one (ds_if (dt_lt (d_cb call_len_seq callD_len rfl T.z_len bt_len (da_cons (d_ix (d_ix (d_v 0) d_int) d_int) da_nil)) (d_v 1))
  dss_bad
  dss_nil))⟩)
theorem oi_Shaded {f:Addr} {fd:FuncData} (T:Txt K mg) (F:Fun K "__init__" "Shaded.__init__" s_Shaded____init__ f fd) (cs_Thing:CalS P w K mg base 5 "Thing" "__init__" 1 objs i_Thing) (c_check_values:Cal P w K mg base 1  "check_values" ["triangle", "least"] m_check_values):FnOk P w K mg base (CXR P w) 7 f fd ["self", "triangle"] (spI K mg 1 objs i_Shaded):=by
 exact okI F sc_Shaded____init__ (by decide) rfl (fun cdv A outer s H E hr=>⟨_,(di_sup cs_Thing hr (by decide) rfl pass_on (fun _ h=>h) (da_cons (d_v 1) da_nil)
  (di_drp (d_call c_check_values hr (by decide) rfl pass_on (da_cons (d_v 1) (da_cons d_int da_nil)))
  di_nil))⟩)
theorem ok__law_flat (T:Txt K mg) (D:Def K mg "_law_flat" s__law_flat ["_law_thing_here", "_law_triangle"]) (cm_word:MethOk P w K mg base 1 0 "word" tab_word) (ci_Glass:CalI P w K mg base 7 "Glass" 3 objs i_Glass) (ci_Plain:CalI P w K mg base 7 "Plain" 2 objs i_Plain) (ci_Shaded:CalI P w K mg base 7 "Shaded" 1 objs i_Shaded):Cal P w K mg base 9  "_law_flat" ["_law_thing_here", "_law_triangle"] m__law_flat:=by
 exact D.cal sc__law_flat (fun f cdv A outer s H E hr=>⟨_,(dss_cons (ds_set (i:=2) sc__law_flat.nd rfl (Or.inl rfl) (d_ct call_tuple_of callD_tuple rfl T.z_tuple bt_tuple (da_cons (d_comp (own:=["_law_x", "_law_y", "_law_w", "_law_h", "_law_values"]) (cap:=[]) (di_seq (d_v 1)) (CompOk.of rfl rfl (by kernel_rfl) rfl trivial trivial) rfl (fun _ _ _ _ _=>(dg_tup rfl (dgs_cons (dg_name (i:=0) (show List.Nodup (["_law_x", "_law_y", "_law_w", "_law_h", "_law_values"]:List Str) by decide +kernel) rfl (Or.inl rfl) (by decide)) (dgs_cons (dg_name (i:=1) (show List.Nodup (["_law_x", "_law_y", "_law_w", "_law_h", "_law_values"]:List Str) by decide +kernel) rfl (Or.inl rfl) (by decide)) (dgs_cons (dg_name (i:=2) (show List.Nodup (["_law_x", "_law_y", "_law_w", "_law_h", "_law_values"]:List Str) by decide +kernel) rfl (Or.inl rfl) (by decide)) (dgs_cons (dg_name (i:=3) (show List.Nodup (["_law_x", "_law_y", "_law_w", "_law_h", "_law_values"]:List Str) by decide +kernel) rfl (Or.inl rfl) (by decide)) (dgs_cons (dg_name (i:=4) (show List.Nodup (["_law_x", "_law_y", "_law_w", "_law_h", "_law_values"]:List Str) by decide +kernel) rfl (Or.inl rfl) (by decide)) dgs_nil))))))) (fun _ _ _ _ _=>dts_nil) (fun _ _ _ _ _=>(d_tup (da_cons (d_v 0) (da_cons (d_v 1) (da_cons (d_v 2) (da_cons (d_v 2) (da_cons (d_v 4) da_nil)))))))) da_nil)))
  (dss_cons (ds_if (dt_eq hr (d_meth0 cm_word hr (by decide) pass_on (d_v 0)) d_str)
  (dss_one (ds_ret (d_make ci_Glass hr (by decide) rfl pass_on (da_cons (d_v 2) (da_cons (d_fld T.f_colour (d_v 0)) (da_cons (d_fld T.f_part (d_v 0)) da_nil))))))
  dss_nil)
  (dss_cons (ds_if (dt_eq hr (d_meth0 cm_word hr (by decide) pass_on (d_v 0)) d_str)
  (dss_one (ds_ret (d_make ci_Plain hr (by decide) rfl pass_on (da_cons (d_v 2) (da_cons (d_fld T.f_colour (d_v 0)) da_nil)))))
  dss_nil)
  (dss_one (ds_ret (d_make ci_Shaded hr (by decide) rfl pass_on (da_cons (d_v 2) da_nil)))))))⟩)
theorem ok_check_pattern (T:Txt K mg) (D:Def K mg "check_pattern" s_check_pattern ["pattern"]) (c_is_fraction:Cal P w K mg base 2  "is_fraction" ["thing"] m_is_fraction):Cal P w K mg base 3  "check_pattern" ["pattern"] m_check_pattern:=by
 obtain ⟨C_BadPattern,m_BadPattern,q_BadPattern⟩:=T.e_BadPattern
 obtain ⟨ga_COUNTS,go_COUNTS,gi_COUNTS,gn_COUNTS,gm_COUNTS,gl_COUNTS,gc_COUNTS,gd_COUNTS,gz_COUNTS,gv_COUNTS⟩:=T.t_COUNTS
 exact D.cal sc_check_pattern (fun f cdv A outer s H E hr=>⟨_,(dss_cons (ds_if (DW.dt (dw_or (dt_not (dt_val (d_cb call_isiD callD_isi rfl T.z_isinstance bt_isinstance (da_cons (d_v 0) (da_cons (d_ty rfl T.z_list bt_list) da_nil))))) (dw_or1 (dt_nin hr (d_cb call_len_seq callD_len rfl T.z_len bt_len (da_cons (d_v 0) da_nil)) (d_gtup (ns:=[1,2,4,8,16]) rfl gm_COUNTS gl_COUNTS gc_COUNTS gd_COUNTS gz_COUNTS gv_COUNTS)))))
  (dss_one (ds_rse rfl m_BadPattern q_BadPattern (da_cons d_str da_nil)))
  dss_nil)
  (dss_one (ds_for PassesOwn.leaving rfl (di_seq (d_v 0)) (dg_name (i:=1) sc_check_pattern.nd rfl (Or.inl rfl) (by decide))
  (dss_cons (ds_if (DW.dt (dw_or (dt_not (dt_val (d_cb call_isiD callD_isi rfl T.z_isinstance bt_isinstance (da_cons (d_v 1) (da_cons (d_ty rfl T.z_list bt_list) da_nil))))) (dw_or1 (dt_nin hr (d_cb call_len_seq callD_len rfl T.z_len bt_len (da_cons (d_v 1) da_nil)) (d_gtup (ns:=[1,2,4,8,16]) rfl gm_COUNTS gl_COUNTS gc_COUNTS gd_COUNTS gz_COUNTS gv_COUNTS)))))
  (dss_one (ds_rse rfl m_BadPattern q_BadPattern (da_cons d_str da_nil)))
  dss_nil)
  (dss_cons (ds_if (dt_ne hr (d_cb call_len_seq callD_len rfl T.z_len bt_len (da_cons (d_v 1) da_nil)) (d_cb call_len_seq callD_len rfl T.z_len bt_len (da_cons (d_ix (d_v 0) d_int) da_nil)))
  (dss_one (ds_rse rfl m_BadPattern q_BadPattern (da_cons d_str da_nil)))
  dss_nil)
  (dss_one (ds_if (dt_not (dt_val (d_cb (call_allD rfl) callD_all rfl T.z_all bt_all (da_cons (d_comp (own:=["entry"]) (cap:=[]) (di_seq (d_v 1)) (CompOk.of rfl rfl (by kernel_rfl) rfl trivial trivial) rfl (fun _ _ _ _ _=>(dg_name (i:=0) (show List.Nodup (["entry"]:List Str) by decide +kernel) rfl (Or.inl rfl) (by decide))) (fun _ _ _ _ _=>dts_nil) (fun _ _ _ _ _=>(d_callC c_is_fraction hr (by decide) rfl (da_cons (d_v 0) da_nil)))) da_nil))))
  (dss_one (ds_rse rfl m_BadPattern q_BadPattern (da_cons d_str da_nil)))
  dss_nil)))))))⟩)
theorem ok_copied (T:Txt K mg) (D:Def K mg "copied" s_copied ["pattern"])  : Cal P w K mg base 1  "copied" ["pattern"] m_copied:=by
 exact D.cal sc_copied (fun f cdv A outer s H E hr=>⟨_,(dss_one (ds_ret (d_comp (own:=["row"]) (cap:=[]) (di_seq (d_v 0)) (CompOk.of rfl rfl (by kernel_rfl) rfl trivial trivial) rfl (fun _ _ _ _ _=>(dg_name (i:=0) (show List.Nodup (["row"]:List Str) by decide +kernel) rfl (Or.inl rfl) (by decide))) (fun _ _ _ _ _=>dts_nil) (fun _ _ _ _ _=>(d_ct call_list_of callD_list rfl T.z_list bt_list (da_cons (d_v 0) da_nil))))))⟩)
theorem oi_Patterned {f:Addr} {fd:FuncData} (T:Txt K mg) (F:Fun K "__init__" "Patterned.__init__" s_Patterned____init__ f fd) (cs_Thing:CalS P w K mg base 5 "Thing" "__init__" 1 objs i_Thing) (c_check_values:Cal P w K mg base 1  "check_values" ["triangle", "least"] m_check_values) (c_check_pattern:Cal P w K mg base 3  "check_pattern" ["pattern"] m_check_pattern) (c_copied:Cal P w K mg base 1  "copied" ["pattern"] m_copied):FnOk P w K mg base (CXR P w) 7 f fd ["self", "triangle", "pattern"] (spI K mg 2 objs i_Patterned):=by
 exact okI F sc_Patterned____init__ (by decide) rfl (fun cdv A outer s H E hr=>⟨_,(di_sup cs_Thing hr (by decide) rfl pass_on (fun _ h=>h) (da_cons (d_v 1) da_nil)
  (di_drp (d_call c_check_values hr (by decide) rfl pass_on (da_cons (d_v 1) (da_cons d_int da_nil)))
  (di_drp (d_call c_check_pattern hr (by decide) rfl pass_on (da_cons (d_v 2) da_nil))
  (di_set T.f_pattern (d_call c_copied hr (by decide) rfl pass_on (da_cons (d_v 2) da_nil))
  di_nil))))⟩)
theorem ok__law_pattern (T:Txt K mg) (D:Def K mg "_law_pattern" s__law_pattern ["_law_number", "_law_more"]) (c_ratio:Cal P w K mg base 2  "ratio" ["top", "bottom"] m_ratio) (c__law_mixed:Cal P w K mg base 1  "_law_mixed" ["_law_cell", "_law_k"] m__law_mixed):Cal P w K mg base 3  "_law_pattern" ["_law_number", "_law_more"] m__law_pattern:=by
 exact D.cal sc__law_pattern (fun f cdv A outer s H E hr=>⟨_,(dss_cons (ds_set (i:=2) sc__law_pattern.nd rfl (Or.inl rfl) (d_ix (d_lst (da_cons d_int (da_cons d_int (da_cons d_int (da_cons d_int da_nil))))) (d_mod (d_v 0) d_int)))
  (dss_cons (ds_set (i:=3) sc__law_pattern.nd rfl (Or.inl rfl) (d_ix (d_lst (da_cons d_int (da_cons d_int (da_cons d_int (da_cons d_int da_nil))))) (d_mod (d_div (d_v 0) d_int) d_int)))
  (dss_cons (ds_setO (i:=4) sc__law_pattern.nd rfl (Or.inl rfl) da_nil)
  (dss_cons (ds_for PassesOwn.leaving rfl (di_r1 rfl T.z_range (da_cons (d_v 2) da_nil)) (dg_name (i:=5) sc__law_pattern.nd rfl (Or.inl rfl) (by decide))
  (dss_cons (ds_setO (i:=6) sc__law_pattern.nd rfl (Or.inl rfl) da_nil)
  (dss_cons (ds_for PassesOwn.leaving rfl (di_r1 rfl T.z_range (da_cons (d_v 3) da_nil)) (dg_name (i:=7) sc__law_pattern.nd rfl (Or.inl rfl) (by decide))
  (dss_cons (ds_set (i:=8) sc__law_pattern.nd rfl (Or.inl rfl) (d_call c__law_mixed hr (by decide) rfl pass_on (da_cons (d_v 1) (da_cons (d_add (d_mul d_int (d_v 5)) (d_v 7)) da_nil))))
  (dss_one (ds_app 6 (d_ix (d_lst (da_cons (d_tup (da_cons (d_mod (d_v 8) d_int) (da_cons d_int da_nil))) (da_cons (d_call c_ratio hr (by decide) rfl pass_on (da_cons (d_sub (d_v 8) (d_pow d_int d_int)) (da_cons (d_add d_int (d_mod (d_div (d_v 8) d_int) d_int)) da_nil))) da_nil))) (d_mod (d_div (d_v 0) d_int) d_int))))))
  (dss_one (ds_frz (ds_app 4 (d_v 6)))))))
  (dss_one (ds_frz (ds_ret (d_v 4))))))))⟩)
theorem ok__law_thing (T:Txt K mg) (D:Def K mg "_law_thing" s__law_thing ["_law_draws_here", "_law_triangle"]) (c_ratio:Cal P w K mg base 2  "ratio" ["top", "bottom"] m_ratio) (ci_Glass:CalI P w K mg base 7 "Glass" 3 objs i_Glass) (ci_Plain:CalI P w K mg base 7 "Plain" 2 objs i_Plain) (ci_Shaded:CalI P w K mg base 7 "Shaded" 1 objs i_Shaded) (ci_Patterned:CalI P w K mg base 7 "Patterned" 2 objs i_Patterned) (c__law_pattern:Cal P w K mg base 3  "_law_pattern" ["_law_number", "_law_more"] m__law_pattern):Cal P w K mg base 9  "_law_thing" ["_law_draws_here", "_law_triangle"] m__law_thing:=by
 exact D.cal sc__law_thing (fun f cdv A outer s H E hr=>⟨_,(dss_cons (ds_asg (d_v 0) (dg_tup rfl (dgs_cons (dg_name (i:=2) sc__law_thing.nd rfl (Or.inl rfl) (by decide)) (dgs_cons (dg_name (i:=3) sc__law_thing.nd rfl (Or.inl rfl) (by decide)) (dgs_cons (dg_name (i:=4) sc__law_thing.nd rfl (Or.inl rfl) (by decide)) (dgs_cons (dg_name (i:=5) sc__law_thing.nd rfl (Or.inl rfl) (by decide)) dgs_nil))))))
  (dss_cons (ds_set (i:=6) sc__law_thing.nd rfl (Or.inl rfl) (d_lst (da_cons (d_tup (da_cons (d_sub (d_mod (d_div (d_v 2) d_int) d_int) d_int) (da_cons d_int da_nil))) (da_cons (d_call c_ratio hr (by decide) rfl pass_on (da_cons (d_add (d_mul d_int (d_mod (d_div (d_v 2) d_int) d_int)) d_int) (da_cons d_int da_nil))) (da_cons (d_call c_ratio hr (by decide) rfl pass_on (da_cons (d_sub (d_v 3) (d_pow d_int d_int)) (da_cons (d_add d_int (d_v 4)) da_nil))) da_nil)))))
  (dss_cons (ds_set (i:=6) sc__law_thing.nd rfl (Or.inl rfl) (d_ix (d_v 6) (d_mod (d_div (d_v 2) d_int) d_int)))
  (dss_cons (ds_set (i:=7) sc__law_thing.nd rfl (Or.inl rfl) (d_mod (d_v 2) d_int))
  (dss_cons (ds_if (dt_eq hr (d_v 7) d_int)
  (dss_cons (ds_set (i:=8) sc__law_thing.nd rfl (Or.inr rfl) (d_add d_int (d_mod (d_div (d_v 2) d_int) d_int)))
  (dss_one (ds_ret (d_make ci_Shaded hr (by decide) rfl pass_on (da_cons (d_ct call_tuple_of callD_tuple rfl T.z_tuple bt_tuple (da_cons (d_comp (own:=["_law_corner_here"]) (cap:=[("_law_few", 8)]) (di_seq (d_v 1)) (CompOk.of rfl rfl (by kernel_rfl) rfl ⟨rfl,trivial⟩ ⟨rfl,trivial⟩) rfl (fun _ _ _ _ _=>(dg_name (i:=0) (show List.Nodup (["_law_corner_here", "_law_few"]:List Str) by decide +kernel) rfl (Or.inl rfl) (by decide))) (fun _ _ _ _ _=>dts_nil) (fun _ _ _ _ _=>(d_add (d_cut (d_v 0) do_none (do_some d_int)) (d_tup (da_cons (d_cut (d_ix (d_v 0) d_int) do_none (do_some (d_v 1))) da_nil))))) da_nil)) da_nil)))))
  dss_nil)
  (dss_cons (ds_if (dt_eq hr (d_v 7) d_int)
  (dss_one (ds_ret (d_make ci_Patterned hr (by decide) rfl pass_on (da_cons (d_v 1) (da_cons (d_call c__law_pattern hr (by decide) rfl pass_on (da_cons (d_div (d_v 2) d_int) (da_cons (d_v 5) da_nil))) da_nil)))))
  dss_nil)
  (dss_cons (ds_if (dt_eq hr (d_v 7) d_int)
  (dss_one (ds_ret (d_make ci_Plain hr (by decide) rfl pass_on (da_cons (d_v 1) (da_cons (d_v 6) da_nil)))))
  dss_nil)
  (dss_cons (ds_set (i:=9) sc__law_thing.nd rfl (Or.inl rfl) (d_ix (d_lst (da_cons (d_tup (da_cons d_int (da_cons d_int da_nil))) (da_cons (d_tup (da_cons d_int (da_cons d_int da_nil))) (da_cons (d_tup (da_cons d_int (da_cons d_int da_nil))) (da_cons (d_tup (da_cons d_int (da_cons d_int da_nil))) (da_cons (d_tup (da_cons d_int (da_cons d_int da_nil))) (da_cons (d_call c_ratio hr (by decide) rfl pass_on (da_cons (d_mod (d_v 5) (d_add d_int (d_v 3))) (da_cons (d_add d_int (d_v 3)) da_nil))) da_nil))))))) (d_mod (d_div (d_v 2) d_int) d_int)))
  (dss_one (ds_ret (d_make ci_Glass hr (by decide) rfl pass_on (da_cons (d_v 1) (da_cons (d_v 6) (da_cons (d_v 9) da_nil))))))))))))))⟩)
theorem ok__law_corner (T:Txt K mg) (D:Def K mg "_law_corner" s__law_corner ["_law_draws_here", "_law_many"])  : Cal P w K mg base 1  "_law_corner" ["_law_draws_here", "_law_many"] m__law_corner:=by
 exact D.cal sc__law_corner (fun f cdv A outer s H E hr=>⟨_,(dss_cons (ds_asg (d_cut (d_v 0) do_none (do_some d_int)) (dg_tup rfl (dgs_cons (dg_name (i:=2) sc__law_corner.nd rfl (Or.inl rfl) (by decide)) (dgs_cons (dg_name (i:=3) sc__law_corner.nd rfl (Or.inl rfl) (by decide)) dgs_nil))))
  (dss_cons (ds_set (i:=4) sc__law_corner.nd rfl (Or.inl rfl) (d_ix (d_lst (da_cons d_int (da_cons d_int (da_cons d_int (da_cons d_int da_nil))))) (d_mod (d_div (d_v 2) d_int) d_int)))
  (dss_cons (ds_set (i:=5) sc__law_corner.nd rfl (Or.inl rfl) (d_add d_int (d_mod (d_div (d_v 2) d_int) d_int)))
  (dss_cons (ds_set (i:=6) sc__law_corner.nd rfl (Or.inl rfl) (d_mul (d_v 5) (d_sub (d_mod (d_div (d_v 2) d_int) (d_add (d_mul (d_v 4) d_int) d_int)) (d_v 4))))
  (dss_cons (ds_set (i:=7) sc__law_corner.nd rfl (Or.inl rfl) (d_mul (d_v 5) (d_sub (d_mod (d_v 3) (d_add (d_mul (d_v 4) d_int) d_int)) (d_v 4))))
  (dss_cons (ds_set (i:=8) sc__law_corner.nd rfl (Or.inl rfl) (d_mul (d_v 4) (d_v 5)))
  (dss_cons (ds_set (i:=9) sc__law_corner.nd rfl (Or.inl rfl) (d_ix (d_lst (da_cons d_int (da_cons (d_v 8) (da_cons (d_add d_int (d_mod (d_div (d_v 3) d_int) d_int)) (da_cons (d_v 8) da_nil))))) (d_mod (d_div (d_v 3) d_int) d_int)))
  (dss_cons (ds_set (i:=10) sc__law_corner.nd rfl (Or.inl rfl) (d_ct call_tuple_of callD_tuple rfl T.z_tuple bt_tuple (da_cons (d_comp (own:=["_law_j"]) (cap:=[("_law_draws_here", 0)]) (di_r1 rfl T.z_range (da_cons (d_v 1) da_nil)) (CompOk.of rfl rfl (by kernel_rfl) rfl ⟨rfl,trivial⟩ ⟨rfl,trivial⟩) rfl (fun _ _ _ _ _=>(dg_name (i:=0) (show List.Nodup (["_law_j", "_law_draws_here"]:List Str) by decide +kernel) rfl (Or.inl rfl) (by decide))) (fun _ _ _ _ _=>dts_nil) (fun _ _ _ _ _=>(d_sub (d_mod (d_ix (d_v 1) (d_add d_int (d_v 0))) d_int) d_int))) da_nil)))
  (dss_cons (ds_if (dt_eq hr (d_mod (d_v 2) d_int) d_int)
  (dss_cons (ds_set (i:=6) sc__law_corner.nd rfl (Or.inl rfl) (d_sub (d_mod (d_ix (d_v 0) d_int) d_int) (d_pow d_int d_int)))
  (dss_cons (ds_set (i:=7) sc__law_corner.nd rfl (Or.inl rfl) (d_sub (d_mod (d_ix (d_v 0) d_int) d_int) (d_pow d_int d_int)))
  (dss_cons (ds_set (i:=8) sc__law_corner.nd rfl (Or.inl rfl) (d_add d_int (d_mod (d_ix (d_v 0) d_int) (d_pow d_int d_int))))
  (dss_cons (ds_set (i:=9) sc__law_corner.nd rfl (Or.inl rfl) (d_add d_int (d_mod (d_ix (d_v 0) d_int) (d_pow d_int d_int))))
  (dss_one (ds_set (i:=10) sc__law_corner.nd rfl (Or.inl rfl) (d_ct call_tuple_of callD_tuple rfl T.z_tuple bt_tuple (da_cons (d_comp (own:=["_law_j"]) (cap:=[("_law_draws_here", 0)]) (di_r1 rfl T.z_range (da_cons (d_v 1) da_nil)) (CompOk.of rfl rfl (by kernel_rfl) rfl ⟨rfl,trivial⟩ ⟨rfl,trivial⟩) rfl (fun _ _ _ _ _=>(dg_name (i:=0) (show List.Nodup (["_law_j", "_law_draws_here"]:List Str) by decide +kernel) rfl (Or.inl rfl) (by decide))) (fun _ _ _ _ _=>dts_nil) (fun _ _ _ _ _=>(d_sub (d_mod (d_ix (d_v 1) (d_add d_int (d_v 0))) d_int) (d_pow d_int d_int)))) da_nil))))))))
  dss_nil)
  (dss_cons (ds_if (dt_eq hr (d_mod (d_v 2) d_int) d_int)
  (dss_cons (ds_set (i:=8) sc__law_corner.nd rfl (Or.inl rfl) (d_add d_int (d_mod (d_div (d_v 3) d_int) d_int)))
  (dss_one (ds_set (i:=6) sc__law_corner.nd rfl (Or.inl rfl) (d_sub (d_mod (d_ix (d_v 0) d_int) d_int) d_int))))
  dss_nil)
  (dss_one (ds_ret (d_tup (da_cons (d_v 6) (da_cons (d_v 7) (da_cons (d_v 8) (da_cons (d_v 9) (da_cons (d_v 10) da_nil))))))))))))))))))⟩)
theorem ok__law_triangles (T:Txt K mg) (D:Def K mg "_law_triangles" s__law_triangles ["_law_script", "_law_first", "_law_most", "_law_many"]) (c__law_cell_at:Cal P w K mg base 1  "_law_cell_at" ["_law_script", "_law_k"] m__law_cell_at) (c__law_draws:Cal P w K mg base 2  "_law_draws" ["_law_cell", "_law_many"] m__law_draws) (c__law_corner:Cal P w K mg base 1  "_law_corner" ["_law_draws_here", "_law_many"] m__law_corner):Cal P w K mg base 3  "_law_triangles" ["_law_script", "_law_first", "_law_most", "_law_many"] m__law_triangles:=by
 exact D.cal sc__law_triangles (fun f cdv A outer s H E hr=>⟨_,(dss_cons (ds_set (i:=4) sc__law_triangles.nd rfl (Or.inr rfl) (d_add d_int (d_v 3)))
  (dss_cons (ds_set (i:=5) sc__law_triangles.nd rfl (Or.inr rfl) (d_comp (own:=["_law_k"]) (cap:=[("_law_size", 4),("_law_script", 0),("_law_first", 1)]) (di_r1 rfl T.z_range (da_cons d_int da_nil)) (CompOk.of rfl rfl (by kernel_rfl) rfl ⟨rfl,rfl,rfl,trivial⟩ ⟨rfl,rfl,rfl,trivial⟩) rfl (fun _ _ _ _ _=>(dg_name (i:=0) (show List.Nodup (["_law_k", "_law_size", "_law_script", "_law_first"]:List Str) by decide +kernel) rfl (Or.inl rfl) (by decide))) (fun _ _ _ _ _=>dts_nil) (fun _ _ _ _ _=>(d_callC c__law_draws hr (by decide) rfl (da_cons (d_callC c__law_cell_at hr (by decide) rfl (da_cons (d_v 2) (da_cons (d_add (d_v 3) (d_v 0)) da_nil))) (da_cons (d_mul d_int (d_v 1)) da_nil))))))
  (dss_cons (ds_setC (i:=6) sc__law_triangles.nd rfl (Or.inl rfl) (own:=["_law_row"]) (cap:=[("_law_size", 4),("_law_many", 3)]) (di_seq (d_v 5)) (CompOk.of rfl rfl (by kernel_rfl) rfl ⟨rfl,rfl,trivial⟩ ⟨rfl,rfl,trivial⟩) rfl (fun _ _ _ _ _=>(dg_name (i:=0) (show List.Nodup (["_law_row", "_law_size", "_law_many"]:List Str) by decide +kernel) rfl (Or.inl rfl) (by decide))) (fun _ _ _ _ _=>dts_nil) (fun _ _ _ _ _=>(d_callC c__law_corner hr (by decide) rfl (da_cons (d_cut (d_v 0) do_none (do_some (d_v 1))) (da_cons (d_v 2) da_nil)))))
  (dss_cons (ds_set (i:=7) sc__law_triangles.nd rfl (Or.inl rfl) (d_call c__law_draws hr (by decide) rfl pass_on (da_cons (d_call c__law_cell_at hr (by decide) rfl pass_on (da_cons (d_v 0) (da_cons (d_add (d_v 1) d_int) da_nil))) (da_cons (d_add (d_v 2) d_int) da_nil))))
  (dss_cons (ds_setO (i:=8) sc__law_triangles.nd rfl (Or.inl rfl) da_nil)
  (dss_cons (ds_for PassesOwn.leaving rfl (di_r1 rfl T.z_range (da_cons (d_mod (d_ix (d_v 7) d_int) (d_add (d_v 2) d_int)) da_nil)) (dg_name (i:=9) sc__law_triangles.nd rfl (Or.inr rfl) (by decide))
  (dss_cons (ds_set (i:=10) sc__law_triangles.nd rfl (Or.inl rfl) (d_ix (d_v 7) (d_add d_int (d_v 9))))
  (dss_cons (ds_set (i:=11) sc__law_triangles.nd rfl (Or.inl rfl) (d_lst (da_cons (d_ix (d_v 6) (d_mod (d_v 10) d_int)) (da_cons (d_ix (d_v 6) (d_mod (d_div (d_v 10) d_int) d_int)) (da_cons (d_ix (d_v 6) (d_mod (d_div (d_v 10) d_int) d_int)) da_nil)))))
  (dss_cons (ds_if (dt_eq hr (d_mod (d_div (d_v 10) d_int) d_int) d_int)
  (dss_one (ds_setC (i:=11) sc__law_triangles.nd rfl (Or.inl rfl) (own:=["_law_j"]) (cap:=[("_law_size", 4),("_law_rows", 5),("_law_many", 3),("_law_k", 9)]) (di_r1 rfl T.z_range (da_cons d_int da_nil)) (CompOk.of rfl rfl (by kernel_rfl) rfl ⟨rfl,rfl,rfl,rfl,trivial⟩ ⟨rfl,rfl,rfl,rfl,trivial⟩) rfl (fun _ _ _ _ _=>(dg_name (i:=0) (show List.Nodup (["_law_j", "_law_size", "_law_rows", "_law_many", "_law_k"]:List Str) by decide +kernel) rfl (Or.inl rfl) (by decide))) (fun _ _ _ _ _=>dts_nil) (fun _ _ _ _ _=>(d_callC c__law_corner hr (by decide) rfl (da_cons (d_cut (d_ix (d_v 2) (d_v 4)) (do_some (d_mul (d_v 1) (d_v 0))) (do_some (d_add (d_mul (d_v 1) (d_v 0)) (d_v 1)))) (da_cons (d_v 3) da_nil))))))
  dss_nil)
  (dss_one (ds_app 8 (d_tup (da_cons (d_ix (d_v 11) d_int) (da_cons (d_ix (d_v 11) d_int) (da_cons (d_ix (d_v 11) d_int) da_nil))))))))))
  (dss_one (ds_frz (ds_ret (d_v 8))))))))))⟩)
theorem ok__law_things (T:Txt K mg) (D:Def K mg "_law_things" s__law_things ["_law_script", "_law_first", "_law_most"]) (c__law_cell_at:Cal P w K mg base 1  "_law_cell_at" ["_law_script", "_law_k"] m__law_cell_at) (c__law_draws:Cal P w K mg base 2  "_law_draws" ["_law_cell", "_law_many"] m__law_draws) (c__law_thing:Cal P w K mg base 9  "_law_thing" ["_law_draws_here", "_law_triangle"] m__law_thing) (c__law_triangles:Cal P w K mg base 3  "_law_triangles" ["_law_script", "_law_first", "_law_most", "_law_many"] m__law_triangles):Cal P w K mg base 10  "_law_things" ["_law_script", "_law_first", "_law_most"] m__law_things:=by
 exact D.cal sc__law_things (fun f cdv A outer s H E hr=>⟨_,(dss_cons (ds_set (i:=3) sc__law_things.nd rfl (Or.inl rfl) (d_call c__law_draws hr (by decide) rfl pass_on (da_cons (d_call c__law_cell_at hr (by decide) rfl pass_on (da_cons (d_v 0) (da_cons (d_add (d_v 1) d_int) da_nil))) (da_cons (d_mul d_int (d_v 2)) da_nil))))
  (dss_cons (ds_setO (i:=4) sc__law_things.nd rfl (Or.inl rfl) da_nil)
  (dss_cons (ds_set (i:=5) sc__law_things.nd rfl (Or.inl rfl) (d_add d_int (d_mod (d_div (d_call c__law_cell_at hr (by decide) rfl pass_on (da_cons (d_v 0) (da_cons (d_add (d_v 1) d_int) da_nil))) d_int) d_int)))
  (dss_cons (ds_for PassesOwn.leaving rfl (di_enumerate rfl T.z_enumerate (da_cons (d_call c__law_triangles hr (by decide) rfl pass_on (da_cons (d_v 0) (da_cons (d_v 1) (da_cons (d_v 2) (da_cons (d_v 5) da_nil))))) da_nil)) (dg_tup rfl (dgs_cons (dg_name (i:=6) sc__law_things.nd rfl (Or.inl rfl) (by decide)) (dgs_cons (dg_name (i:=7) sc__law_things.nd rfl (Or.inl rfl) (by decide)) dgs_nil)))
  (dss_one (ds_app 4 (d_call c__law_thing hr (by decide) rfl pass_on (da_cons (d_cut (d_v 3) (do_some (d_mul d_int (d_v 6))) (do_some (d_add (d_mul d_int (d_v 6)) d_int))) (da_cons (d_v 7) da_nil))))))
  (dss_one (ds_frz (ds_ret (d_v 4))))))))⟩)
theorem ok_minus (T:Txt K mg) (D:Def K mg "minus" s_minus ["one", "other"]) (c_ratio:Cal P w K mg base 2  "ratio" ["top", "bottom"] m_ratio):Cal P w K mg base 3  "minus" ["one", "other"] m_minus:=by
 exact D.cal sc_minus (fun f cdv A outer s H E hr=>⟨_,(dss_one (ds_ret (d_call c_ratio hr (by decide) rfl pass_on (da_cons (d_sub (d_mul (d_ix (d_v 0) d_int) (d_ix (d_v 1) d_int)) (d_mul (d_ix (d_v 1) d_int) (d_ix (d_v 0) d_int))) (da_cons (d_mul (d_ix (d_v 0) d_int) (d_ix (d_v 1) d_int)) da_nil)))))⟩)
theorem ok_plus (T:Txt K mg) (D:Def K mg "plus" s_plus ["one", "other"]) (c_ratio:Cal P w K mg base 2  "ratio" ["top", "bottom"] m_ratio):Cal P w K mg base 3  "plus" ["one", "other"] m_plus:=by
 exact D.cal sc_plus (fun f cdv A outer s H E hr=>⟨_,(dss_one (ds_ret (d_call c_ratio hr (by decide) rfl pass_on (da_cons (d_add (d_mul (d_ix (d_v 0) d_int) (d_ix (d_v 1) d_int)) (d_mul (d_ix (d_v 1) d_int) (d_ix (d_v 0) d_int))) (da_cons (d_mul (d_ix (d_v 0) d_int) (d_ix (d_v 1) d_int)) da_nil)))))⟩)
theorem ok_product (T:Txt K mg) (D:Def K mg "product" s_product ["one", "other"]) (c_ratio:Cal P w K mg base 2  "ratio" ["top", "bottom"] m_ratio):Cal P w K mg base 3  "product" ["one", "other"] m_product:=by
 exact D.cal sc_product (fun f cdv A outer s H E hr=>⟨_,(dss_one (ds_ret (d_call c_ratio hr (by decide) rfl pass_on (da_cons (d_mul (d_ix (d_v 0) d_int) (d_ix (d_v 1) d_int)) (da_cons (d_mul (d_ix (d_v 0) d_int) (d_ix (d_v 1) d_int)) da_nil)))))⟩)
theorem ok_laid_over (T:Txt K mg) (D:Def K mg "laid_over" s_laid_over ["glass", "colour"]) (c_minus:Cal P w K mg base 3  "minus" ["one", "other"] m_minus) (c_plus:Cal P w K mg base 3  "plus" ["one", "other"] m_plus) (c_product:Cal P w K mg base 3  "product" ["one", "other"] m_product):Cal P w K mg base 4  "laid_over" ["glass", "colour"] m_laid_over:=by
 exact D.cal sc_laid_over (fun f cdv A outer s H E hr=>⟨_,(dss_cons (ds_set (i:=2) sc_laid_over.nd rfl (Or.inl rfl) (d_call c_minus hr (by decide) rfl pass_on (da_cons (d_tup (da_cons d_int (da_cons d_int da_nil))) (da_cons (d_fld T.f_part (d_v 0)) da_nil))))
  (dss_one (ds_ret (d_call c_plus hr (by decide) rfl pass_on (da_cons (d_call c_product hr (by decide) rfl pass_on (da_cons (d_fld T.f_part (d_v 0)) (da_cons (d_fld T.f_colour (d_v 0)) da_nil))) (da_cons (d_call c_product hr (by decide) rfl pass_on (da_cons (d_v 2) (da_cons (d_v 1) da_nil))) da_nil))))))⟩)
theorem ok_under (T:Txt K mg) (D:Def K mg "under" s_under ["one", "other"])  : Cal P w K mg base 1  "under" ["one", "other"] m_under:=by
 exact D.cal sc_under (fun f cdv A outer s H E hr=>⟨_,(dss_one (ds_ret (d_lt (d_mul (d_ix (d_v 0) d_int) (d_ix (d_v 1) d_int)) (d_mul (d_ix (d_v 1) d_int) (d_ix (d_v 0) d_int)))))⟩)
theorem ok_layers_over (T:Txt K mg) (D:Def K mg "layers_over" s_layers_over ["nearest", "sights"]) (cm_is_glass:MethOk P w K mg base 1 0 "is_glass" tab_is_glass) (c_under:Cal P w K mg base 1  "under" ["one", "other"] m_under):Cal P w K mg base 2  "layers_over" ["nearest", "sights"] m_layers_over:=by
 exact D.cal sc_layers_over (fun f cdv A outer s H E hr=>⟨_,(dss_cons (ds_setO (i:=2) sc_layers_over.nd rfl (Or.inl rfl) da_nil)
  (dss_cons (ds_for PassesOwn.leaving rfl (di_seq (d_v 1)) (dg_name (i:=3) sc_layers_over.nd rfl (Or.inr rfl) (by decide))
  (dss_one (ds_if (DW.dt (dw_and (dt_val (d_meth0 cm_is_glass hr (by decide) pass_on (d_ix (d_v 3) d_int))) (dw_and1 (DW.dt (dw_or (dt_isN (d_v 0)) (dw_or1 (dt_val (d_call c_under hr (by decide) rfl pass_on (da_cons (d_ix (d_v 3) d_int) (da_cons (d_ix (d_v 0) d_int) da_nil))))))))))
  (dss_cons (ds_set (i:=4) sc_layers_over.nd rfl (Or.inl rfl) (d_pk 2 (d_cb call_len_seq callD_len rfl T.z_len bt_len (da_cons (d_comp (own:=["layer"]) (cap:=[("sight", 3)]) (di_seq (d_v 2)) (CompOk.of rfl rfl (by kernel_rfl) rfl ⟨rfl,trivial⟩ ⟨rfl,trivial⟩) rfl (fun _ _ _ _ _=>(dg_name (i:=0) (show List.Nodup (["layer", "sight"]:List Str) by decide +kernel) rfl (Or.inl rfl) (by decide))) (fun _ _ _ _ _=>dts_one (dt_val (d_callC c_under hr (by decide) rfl (da_cons (d_ix (d_v 1) d_int) (da_cons (d_ix (d_v 0) d_int) da_nil))))) (fun _ _ _ _ _=>(d_v 0))) da_nil))))
  (dss_one (ds_ins 2 (d_v 4) (d_v 3))))
  dss_nil)))
  (dss_one (ds_frz (ds_ret (d_v 2))))))⟩)
theorem ok_nearest_of (T:Txt K mg) (D:Def K mg "nearest_of" s_nearest_of ["sights"]) (cm_is_glass:MethOk P w K mg base 1 0 "is_glass" tab_is_glass) (c_under:Cal P w K mg base 1  "under" ["one", "other"] m_under):Cal P w K mg base 2  "nearest_of" ["sights"] m_nearest_of:=by
 exact D.cal sc_nearest_of (fun f cdv A outer s H E hr=>⟨_,(dss_cons (ds_set (i:=1) sc_nearest_of.nd rfl (Or.inl rfl) d_non)
  (dss_cons (ds_for PassesOwn.leaving rfl (di_seq (d_v 0)) (dg_name (i:=2) sc_nearest_of.nd rfl (Or.inl rfl) (by decide))
  (dss_cons (ds_if (dt_val (d_meth0 cm_is_glass hr (by decide) pass_on (d_ix (d_v 2) d_int)))
  (dss_one ds_cnt)
  dss_nil)
  (dss_one (ds_if (DW.dt (dw_or (dt_isN (d_v 1)) (dw_or1 (dt_val (d_call c_under hr (by decide) rfl pass_on (da_cons (d_ix (d_v 2) d_int) (da_cons (d_ix (d_v 1) d_int) da_nil)))))))
  (dss_one (ds_set (i:=1) sc_nearest_of.nd rfl (Or.inl rfl) (d_v 2)))
  dss_nil))))
  (dss_one (ds_ret (d_v 1)))))⟩)
theorem ok_colour_of (T:Txt K mg) (D:Def K mg "colour_of" s_colour_of ["sights", "ground"]) (cm_colour_at:MethOk P w K mg base 3 1 "colour_at" tab_colour_at) (c_laid_over:Cal P w K mg base 4  "laid_over" ["glass", "colour"] m_laid_over) (c_layers_over:Cal P w K mg base 2  "layers_over" ["nearest", "sights"] m_layers_over) (c_nearest_of:Cal P w K mg base 2  "nearest_of" ["sights"] m_nearest_of):Cal P w K mg base 5  "colour_of" ["sights", "ground"] m_colour_of:=by
 exact D.cal sc_colour_of (fun f cdv A outer s H E hr=>⟨_,(dss_cons (ds_set (i:=2) sc_colour_of.nd rfl (Or.inl rfl) (d_call c_nearest_of hr (by decide) rfl pass_on (da_cons (d_v 0) da_nil)))
  (dss_cons (ds_set (i:=3) sc_colour_of.nd rfl (Or.inl rfl) (d_v 1))
  (dss_cons (ds_if (dt_notN (d_v 2))
  (dss_one (ds_set (i:=3) sc_colour_of.nd rfl (Or.inl rfl) (d_meth cm_colour_at hr (by decide) pass_on (d_ix (d_v 2) d_int) (da_cons (d_ix (d_v 2) d_int) da_nil))))
  dss_nil)
  (dss_cons (ds_for PassesOwn.leaving rfl (di_seq (d_call c_layers_over hr (by decide) rfl pass_on (da_cons (d_v 2) (da_cons (d_v 0) da_nil)))) (dg_name (i:=4) sc_colour_of.nd rfl (Or.inl rfl) (by decide))
  (dss_one (ds_set (i:=3) sc_colour_of.nd rfl (Or.inl rfl) (d_call c_laid_over hr (by decide) rfl pass_on (da_cons (d_ix (d_v 4) d_int) (da_cons (d_v 3) da_nil))))))
  (dss_one (ds_ret (d_v 3)))))))⟩)
theorem ok_sights_at (T:Txt K mg) (D:Def K mg "sights_at" s_sights_at ["things", "p"]) (c_seen_at:Cal P w K mg base 4  "seen_at" ["triangle", "point"] m_seen_at):Cal P w K mg base 5  "sights_at" ["things", "p"] m_sights_at:=by
 exact D.cal sc_sights_at (fun f cdv A outer s H E hr=>⟨_,(dss_cons (ds_setO (i:=2) sc_sights_at.nd rfl (Or.inl rfl) da_nil)
  (dss_cons (ds_for PassesOwn.leaving rfl (di_seq (d_v 0)) (dg_name (i:=3) sc_sights_at.nd rfl (Or.inl rfl) (by decide))
  (dss_cons (ds_set (i:=4) sc_sights_at.nd rfl (Or.inl rfl) (d_call c_seen_at hr (by decide) rfl pass_on (da_cons (d_fld T.f_triangle (d_v 3)) (da_cons (d_v 1) da_nil))))
  (dss_one (ds_if (dt_notN (d_v 4))
  (dss_one (ds_app 2 (d_tup (da_cons (d_v 3) (da_cons (d_ix (d_v 4) d_int) (da_cons (d_ix (d_v 4) d_int) da_nil))))))
  dss_nil))))
  (dss_one (ds_frz (ds_ret (d_v 2))))))⟩)
theorem ok_colour_seen (T:Txt K mg) (D:Def K mg "colour_seen" s_colour_seen ["things", "p", "ground"]) (c_colour_of:Cal P w K mg base 5  "colour_of" ["sights", "ground"] m_colour_of) (c_sights_at:Cal P w K mg base 5  "sights_at" ["things", "p"] m_sights_at):Cal P w K mg base 6  "colour_seen" ["things", "p", "ground"] m_colour_seen:=by
 exact D.cal sc_colour_seen (fun f cdv A outer s H E hr=>⟨_,(dss_one (ds_ret (d_call c_colour_of hr (by decide) rfl pass_on (da_cons (d_call c_sights_at hr (by decide) rfl pass_on (da_cons (d_v 0) (da_cons (d_v 1) da_nil))) (da_cons (d_v 2) da_nil)))))⟩)
theorem ok_law {f:Addr} {fd:FuncData} (T:Txt K mg) (F:Fun K "law" "law" s_law f fd) (c__law_cell_at:Cal P w K mg base 1  "_law_cell_at" ["_law_script", "_law_k"] m__law_cell_at) (c__law_colour:Cal P w K mg base 6  "_law_colour" ["_law_things_here", "_law_point", "_law_ground"] m__law_colour) (c__law_draws:Cal P w K mg base 2  "_law_draws" ["_law_cell", "_law_many"] m__law_draws) (c__law_flat:Cal P w K mg base 9  "_law_flat" ["_law_thing_here", "_law_triangle"] m__law_flat) (c__law_things:Cal P w K mg base 10  "_law_things" ["_law_script", "_law_first", "_law_most"] m__law_things) (c_colour_seen:Cal P w K mg base 6  "colour_seen" ["things", "p", "ground"] m_colour_seen):FnOk P w K mg base (CXR P w) 11 f fd ["_law_script"] (spD K mg 1 m_law):=by
 exact okD F sc_law (fun cdv A outer s H E hr=>⟨_,(dss_cons (ds_set (i:=1) sc_law.nd rfl (Or.inl rfl) (d_call c__law_things hr (by decide) rfl pass_on (da_cons (d_v 0) (da_cons d_int (da_cons d_int da_nil)))))
  (dss_cons (ds_set (i:=2) sc_law.nd rfl (Or.inl rfl) (d_call c__law_draws hr (by decide) rfl pass_on (da_cons (d_call c__law_cell_at hr (by decide) rfl pass_on (da_cons (d_v 0) (da_cons d_int da_nil))) (da_cons d_int da_nil))))
  (dss_cons (ds_if (dt_eq hr (d_mod (d_ix (d_v 2) d_int) d_int) d_int)
  (dss_one (ds_setC (i:=1) sc_law.nd rfl (Or.inl rfl) (own:=["_law_thing_here"]) (cap:=[]) (di_seq (d_v 1)) (CompOk.of rfl rfl (by kernel_rfl) rfl trivial trivial) rfl (fun _ _ _ _ _=>(dg_name (i:=0) (show List.Nodup (["_law_thing_here"]:List Str) by decide +kernel) rfl (Or.inl rfl) (by decide))) (fun _ _ _ _ _=>dts_nil) (fun _ _ _ _ _=>(d_callC c__law_flat hr (by decide) rfl (da_cons (d_v 0) (da_cons (d_fldC T.f_triangle (d_v 0)) da_nil))))))
  dss_nil)
  (dss_cons (ds_set (i:=3) sc_law.nd rfl (Or.inl rfl) (d_ix (d_lst (da_cons (d_tup (da_cons d_int (da_cons d_int da_nil))) (da_cons (d_tup (da_cons d_int (da_cons d_int da_nil))) (da_cons (d_tup (da_cons (d_neg d_int) (da_cons d_int da_nil))) da_nil)))) (d_mod (d_ix (d_v 2) d_int) d_int)))
  (dss_cons (ds_if (dt_eq hr (d_mod (d_div (d_ix (d_v 2) d_int) d_int) d_int) d_int)
  (dss_one (ds_set (i:=1) sc_law.nd rfl (Or.inl rfl) (d_add (d_v 1) (d_cut (d_v 1) do_none (do_some d_int)))))
  dss_nil)
  (dss_cons (ds_for PassesOwn.leaving rfl (di_r1 rfl T.z_range (da_cons d_int da_nil)) (dg_name (i:=4) sc_law.nd rfl (Or.inl rfl) (by decide))
  (dss_cons (ds_set (i:=5) sc_law.nd rfl (Or.inl rfl) (d_ix (d_v 2) (d_v 4)))
  (dss_cons (ds_set (i:=6) sc_law.nd rfl (Or.inl rfl) (d_tup (da_cons (d_add (d_mul d_int (d_mod (d_div (d_v 5) d_int) d_int)) d_int) (da_cons (d_add (d_mul d_int (d_mod (d_div (d_v 5) d_int) d_int)) d_int) (da_cons d_int da_nil)))))
  (dss_cons (ds_if (dt_lt (d_mod (d_v 5) d_int) d_int)
  (dss_cons (ds_set (i:=7) sc_law.nd rfl (Or.inl rfl) (d_add d_int (d_mod (d_div (d_v 5) d_int) d_int)))
  (dss_one (ds_set (i:=6) sc_law.nd rfl (Or.inl rfl) (d_tup (da_cons (d_sub (d_mod (d_div (d_v 5) d_int) (d_mul d_int (d_v 7))) (d_v 7)) (da_cons (d_sub (d_mod (d_div (d_v 5) d_int) (d_mul d_int (d_v 7))) (d_v 7)) (da_cons (d_v 7) da_nil)))))))
  dss_nil)
  (dss_cons (ds_if (dt_eq hr (d_mod (d_v 5) d_int) d_int)
  (dss_cons (ds_set (i:=8) sc_law.nd rfl (Or.inl rfl) (d_sub (d_mod (d_ix (d_v 2) (d_add d_int (d_v 4))) d_int) (d_pow d_int d_int)))
  (dss_one (ds_set (i:=6) sc_law.nd rfl (Or.inl rfl) (d_tup (da_cons (d_v 8) (da_cons (d_sub (d_mod (d_ix (d_v 2) (d_add d_int (d_v 4))) d_int) (d_pow d_int d_int)) (da_cons (d_add d_int (d_mod (d_div (d_v 5) d_int) (d_pow d_int d_int))) da_nil)))))))
  dss_nil)
  (dss_cons (ds_set (i:=9) sc_law.nd rfl (Or.inl rfl) (d_ct call_list_of callD_list rfl T.z_list bt_list (da_cons (d_v 1) da_nil)))
  (dss_cons (ds_set (i:=10) sc_law.nd rfl (Or.inl rfl) (d_call c_colour_seen hr (by decide) rfl pass_on (da_cons (d_v 9) (da_cons (d_v 6) (da_cons (d_v 3) da_nil)))))
  (dss_cons (ds_if (DW.dt (dw_or (dt_not (dt_val (d_cb call_isiD callD_isi rfl T.z_isinstance bt_isinstance (da_cons (d_v 10) (da_cons (d_ty rfl T.z_tuple bt_tuple) da_nil))))) (dw_or1 (dt_ne hr (d_v 10) (d_call c__law_colour hr (by decide) rfl pass_on (da_cons (d_v 1) (da_cons (d_v 6) (da_cons (d_v 3) da_nil))))))))
  (dss_one (ds_ret d_bl))
  dss_nil)
  (dss_one (ds_if (DW.dt (dw_or (dt_ne hr (d_cb call_len_seq callD_len rfl T.z_len bt_len (da_cons (d_v 9) da_nil)) (d_cb call_len_seq callD_len rfl T.z_len bt_len (da_cons (d_v 1) da_nil))) (dw_or1 (dt_ne hr (d_call c_colour_seen hr (by decide) rfl pass_on (da_cons (d_v 9) (da_cons (d_v 6) (da_cons (d_v 3) da_nil)))) (d_v 10)))))
  (dss_one (ds_ret d_bl))
  dss_nil))))))))))
  (dss_one (ds_ret d_bl))))))))⟩)
end
theorem all_mk {l:W.OpenLaw} {w:World} {K:W.Frag} {h:Heap} {mg:Str → Option Value} {fa f1 f2 f3 f4 f5 f6 f7 f8 f9 f10 f11 f12 f13 f14 f15 f16 f17 f18 f19 f20 f21 f22 f23 f24 f25 f26 f27 f28 f29 f30 f31 f32 f33 f34 f35 f36 f37 f38 f39 f40 f41 f42 f43 f44 f45 f46 f47 f48 f49 f50 f51 f52 f53 f54 f55 f56 f57 f58 f59 f60 f61 f62:Addr} (X:K.In h) (G:h.Ns mainGlobals mg) (hfa:mg "law" = some (.ref fa))
  {od1 an1 od2 an2 od3 an3 od4 an4 od5 an5 od6 an6 od7 an7 od8 an8 od9 an9 od10 an10 od11 an11 od12 an12 od13 an13 od14 an14 od15 an15 od16 an16 od17 an17 od18 an18 od19 an19 od20 an20 od21 an21 od22 an22 od23 an23 od24 an24 od25 an25 od26 an26 od27 an27 od28 an28 od29 an29 od30 an30 od31 an31 od32 an32 od33 an33 od34 an34 od35 an35 od36 an36 od37 an37 od38 an38 od39 an39 od40 an40 od41 an41 od42 an42 od43 an43 od44 an44 od45 an45 od46 an46 od47 an47 od48 an48 od49 an49 od50 an50 od51 an51 od52 an52 od53 an53 od54 an54 od55 an55 od56 an56 od57 an57 od58 an58 od59 an59 od60 an60 od61 an61 od62 an62:Option Addr} {sl1 sl2 sl3 sl4 sl5 sl6 sl7 sl8 sl9 sl10 sl11 sl12 sl13 sl14 sl15 sl16 sl17 sl18 sl19 sl20 sl21 sl22 sl23 sl24 sl25 sl26 sl27 sl28 sl29 sl30 sl31 sl32 sl33 sl34 sl35 sl36 sl37 sl38 sl39 sl40 sl41 sl42 sl43 sl44 sl45 sl46 sl47 sl48 sl49 sl50 sl51 sl52 sl53 sl54 sl55 sl56 sl57 sl58 sl59 sl60 sl61 sl62:Array (Option Value)} {oc1 kV1 dc1 pm1 cd1 ct1 oc2 kV2 dc2 pm2 cd2 ct2 oc3 kV3 dc3 pm3 cd3 ct3 oc4 kV4 dc4 pm4 cd4 ct4 oc5 kV5 dc5 pm5 cd5 ct5 oc6 kV6 dc6 pm6 cd6 ct6 oc7 kV7 dc7 pm7 cd7 ct7 oc8 kV8 dc8 pm8 cd8 ct8 oc9 kV9 dc9 pm9 cd9 ct9 oc10 kV10 dc10 pm10 cd10 ct10 oc11 kV11 dc11 pm11 cd11 ct11 oc12 kV12 dc12 pm12 cd12 ct12 oc13 kV13 dc13 pm13 cd13 ct13 oc14 kV14 dc14 pm14 cd14 ct14 oc15 kV15 dc15 pm15 cd15 ct15 oc16 kV16 dc16 pm16 cd16 ct16 oc17 kV17 dc17 pm17 cd17 ct17 oc18 kV18 dc18 pm18 cd18 ct18 oc19 kV19 dc19 pm19 cd19 ct19 oc20 kV20 dc20 pm20 cd20 ct20 oc21 kV21 dc21 pm21 cd21 ct21 oc22 kV22 dc22 pm22 cd22 ct22 oc23 kV23 dc23 pm23 cd23 ct23 oc24 kV24 dc24 pm24 cd24 ct24 oc25 kV25 dc25 pm25 cd25 ct25 oc26 kV26 dc26 pm26 cd26 ct26 oc27 kV27 dc27 pm27 cd27 ct27 oc28 kV28 dc28 pm28 cd28 ct28 oc29 kV29 dc29 pm29 cd29 ct29 oc30 kV30 dc30 pm30 cd30 ct30 oc31 kV31 dc31 pm31 cd31 ct31 oc32 kV32 dc32 pm32 cd32 ct32 oc33 kV33 dc33 pm33 cd33 ct33 oc34 kV34 dc34 pm34 cd34 ct34 oc35 kV35 dc35 pm35 cd35 ct35 oc36 kV36 dc36 pm36 cd36 ct36 oc37 kV37 dc37 pm37 cd37 ct37 oc38 kV38 dc38 pm38 cd38 ct38 oc39 kV39 dc39 pm39 cd39 ct39 oc40 kV40 dc40 pm40 cd40 ct40 oc41 kV41 dc41 pm41 cd41 ct41 oc42 kV42 dc42 pm42 cd42 ct42 oc43 kV43 dc43 pm43 cd43 ct43 oc44 kV44 dc44 pm44 cd44 ct44 oc45 kV45 dc45 pm45 cd45 ct45 oc46 kV46 dc46 pm46 cd46 ct46 oc47 kV47 dc47 pm47 cd47 ct47 oc48 kV48 dc48 pm48 cd48 ct48 oc49 kV49 dc49 pm49 cd49 ct49 oc50 kV50 dc50 pm50 cd50 ct50 oc51 kV51 dc51 pm51 cd51 ct51 oc52 kV52 dc52 pm52 cd52 ct52 oc53 kV53 dc53 pm53 cd53 ct53 oc54 kV54 dc54 pm54 cd54 ct54 oc55 kV55 dc55 pm55 cd55 ct55 oc56 kV56 dc56 pm56 cd56 ct56 oc57 kV57 dc57 pm57 cd57 ct57 oc58 kV58 dc58 pm58 cd58 ct58 oc59 kV59 dc59 pm59 cd59 ct59 oc60 kV60 dc60 pm60 cd60 ct60 oc61 kV61 dc61 pm61 cd61 ct61 oc62 kV62 dc62 pm62 cd62 ct62:Value} {tk0 gtk0_0 gtk0_1 gtk0_2 gtk0_3 gtk0_4:Tok} {GA0 X0 X1 X2 OC_Glass OC_Patterned OC_Plain OC_Shaded OC_Thing:Addr} {godt0:Option Addr} {gnn0:Nat} {gsl0:Array (Option Value)}
  (ob_Glass:W.nsIn K mainGlobals "Glass" = some (some (.ref OC_Glass)))
  (ob_Patterned:W.nsIn K mainGlobals "Patterned" = some (some (.ref OC_Patterned)))
  (ob_Plain:W.nsIn K mainGlobals "Plain" = some (some (.ref OC_Plain)))
  (ob_Shaded:W.nsIn K mainGlobals "Shaded" = some (some (.ref OC_Shaded)))
  (ob_Thing:W.nsIn K mainGlobals "Thing" = some (some (.ref OC_Thing)))
  (a1:W.nsIn K mainGlobals "_law_cell_at" = some (some (.ref f1))) (l1:K.lookup f1 = some ⟨oc1,od1,.func (W.fnOf "_law_cell_at" "_law_cell_at" (defArgs s__law_cell_at) (defBody s__law_cell_at) (defScope s__law_cell_at) .none kV1 dc1 pm1 an1 cd1 ct1),sl1⟩) (c1:W.codeIn K cd1 "_law_cell_at" = true) (k1:W.keepIn K (.ref f1) = true)
  (a2:W.findIn K (.ref OC_Glass) "colour_at" = some (some (.ref f2))) (l2:K.lookup f2 = some ⟨oc2,od2,.func (W.fnOf "colour_at" "Glass.colour_at" (defArgs s_Glass__colour_at) (defBody s_Glass__colour_at) (defScope s_Glass__colour_at) .none kV2 dc2 pm2 an2 cd2 ct2),sl2⟩) (c2:W.codeIn K cd2 "Glass.colour_at" = true) (k2:W.keepIn K (.ref f2) = true) (q2:W.isFn K (.ref f2) = true)
  (a3:W.nsIn K mainGlobals "down" = some (some (.ref f3))) (l3:K.lookup f3 = some ⟨oc3,od3,.func (W.fnOf "down" "down" (defArgs s_down) (defBody s_down) (defScope s_down) .none kV3 dc3 pm3 an3 cd3 ct3),sl3⟩) (c3:W.codeIn K cd3 "down" = true) (k3:W.keepIn K (.ref f3) = true)
  (a4:W.nsIn K mainGlobals "entry_at" = some (some (.ref f4))) (l4:K.lookup f4 = some ⟨oc4,od4,.func (W.fnOf "entry_at" "entry_at" (defArgs s_entry_at) (defBody s_entry_at) (defScope s_entry_at) .none kV4 dc4 pm4 an4 cd4 ct4),sl4⟩) (c4:W.codeIn K cd4 "entry_at" = true) (k4:W.keepIn K (.ref f4) = true)
  (a5:W.findIn K (.ref OC_Patterned) "colour_at" = some (some (.ref f5))) (l5:K.lookup f5 = some ⟨oc5,od5,.func (W.fnOf "colour_at" "Patterned.colour_at" (defArgs s_Patterned__colour_at) (defBody s_Patterned__colour_at) (defScope s_Patterned__colour_at) .none kV5 dc5 pm5 an5 cd5 ct5),sl5⟩) (c5:W.codeIn K cd5 "Patterned.colour_at" = true) (k5:W.keepIn K (.ref f5) = true) (q5:W.isFn K (.ref f5) = true)
  (a6:W.findIn K (.ref OC_Plain) "colour_at" = some (some (.ref f6))) (l6:K.lookup f6 = some ⟨oc6,od6,.func (W.fnOf "colour_at" "Plain.colour_at" (defArgs s_Plain__colour_at) (defBody s_Plain__colour_at) (defScope s_Plain__colour_at) .none kV6 dc6 pm6 an6 cd6 ct6),sl6⟩) (c6:W.codeIn K cd6 "Plain.colour_at" = true) (k6:W.keepIn K (.ref f6) = true) (q6:W.isFn K (.ref f6) = true)
  (a7:W.findIn K (.ref OC_Shaded) "colour_at" = some (some (.ref f7))) (l7:K.lookup f7 = some ⟨oc7,od7,.func (W.fnOf "colour_at" "Shaded.colour_at" (defArgs s_Shaded__colour_at) (defBody s_Shaded__colour_at) (defScope s_Shaded__colour_at) .none kV7 dc7 pm7 an7 cd7 ct7),sl7⟩) (c7:W.codeIn K cd7 "Shaded.colour_at" = true) (k7:W.keepIn K (.ref f7) = true) (q7:W.isFn K (.ref f7) = true)
  (a8:W.findIn K (.ref OC_Glass) "is_glass" = some (some (.ref f8))) (l8:K.lookup f8 = some ⟨oc8,od8,.func (W.fnOf "is_glass" "Glass.is_glass" (defArgs s_Glass__is_glass) (defBody s_Glass__is_glass) (defScope s_Glass__is_glass) .none kV8 dc8 pm8 an8 cd8 ct8),sl8⟩) (c8:W.codeIn K cd8 "Glass.is_glass" = true) (k8:W.keepIn K (.ref f8) = true) (q8:W.isFn K (.ref f8) = true)
  (a9:W.findIn K (.ref OC_Thing) "is_glass" = some (some (.ref f9))) (l9:K.lookup f9 = some ⟨oc9,od9,.func (W.fnOf "is_glass" "Thing.is_glass" (defArgs s_Thing__is_glass) (defBody s_Thing__is_glass) (defScope s_Thing__is_glass) .none kV9 dc9 pm9 an9 cd9 ct9),sl9⟩) (c9:W.codeIn K cd9 "Thing.is_glass" = true) (k9:W.keepIn K (.ref f9) = true) (q9:W.isFn K (.ref f9) = true)
  (a10:W.nsIn K mainGlobals "_law_less" = some (some (.ref f10))) (l10:K.lookup f10 = some ⟨oc10,od10,.func (W.fnOf "_law_less" "_law_less" (defArgs s__law_less) (defBody s__law_less) (defScope s__law_less) .none kV10 dc10 pm10 an10 cd10 ct10),sl10⟩) (c10:W.codeIn K cd10 "_law_less" = true) (k10:W.keepIn K (.ref f10) = true)
  (a11:W.nsIn K mainGlobals "greatest_divisor" = some (some (.ref f11))) (l11:K.lookup f11 = some ⟨oc11,od11,.func (W.fnOf "greatest_divisor" "greatest_divisor" (defArgs s_greatest_divisor) (defBody s_greatest_divisor) (defScope s_greatest_divisor) .none kV11 dc11 pm11 an11 cd11 ct11),sl11⟩) (c11:W.codeIn K cd11 "greatest_divisor" = true) (k11:W.keepIn K (.ref f11) = true)
  (a12:W.nsIn K mainGlobals "ratio" = some (some (.ref f12))) (l12:K.lookup f12 = some ⟨oc12,od12,.func (W.fnOf "ratio" "ratio" (defArgs s_ratio) (defBody s_ratio) (defScope s_ratio) .none kV12 dc12 pm12 an12 cd12 ct12),sl12⟩) (c12:W.codeIn K cd12 "ratio" = true) (k12:W.keepIn K (.ref f12) = true)
  (a13:W.nsIn K mainGlobals "summed_products" = some (some (.ref f13))) (l13:K.lookup f13 = some ⟨oc13,od13,.func (W.fnOf "summed_products" "summed_products" (defArgs s_summed_products) (defBody s_summed_products) (defScope s_summed_products) .none kV13 dc13 pm13 an13 cd13 ct13),sl13⟩) (c13:W.codeIn K cd13 "summed_products" = true) (k13:W.keepIn K (.ref f13) = true)
  (a14:W.nsIn K mainGlobals "weighed_h" = some (some (.ref f14))) (l14:K.lookup f14 = some ⟨oc14,od14,.func (W.fnOf "weighed_h" "weighed_h" (defArgs s_weighed_h) (defBody s_weighed_h) (defScope s_weighed_h) .none kV14 dc14 pm14 an14 cd14 ct14),sl14⟩) (c14:W.codeIn K cd14 "weighed_h" = true) (k14:W.keepIn K (.ref f14) = true)
  (a15:W.nsIn K mainGlobals "depth_and_values" = some (some (.ref f15))) (l15:K.lookup f15 = some ⟨oc15,od15,.func (W.fnOf "depth_and_values" "depth_and_values" (defArgs s_depth_and_values) (defBody s_depth_and_values) (defScope s_depth_and_values) .none kV15 dc15 pm15 an15 cd15 ct15),sl15⟩) (c15:W.codeIn K cd15 "depth_and_values" = true) (k15:W.keepIn K (.ref f15) = true)
  (a16:W.nsIn K mainGlobals "check_before_eye" = some (some (.ref f16))) (l16:K.lookup f16 = some ⟨oc16,od16,.func (W.fnOf "check_before_eye" "check_before_eye" (defArgs s_check_before_eye) (defBody s_check_before_eye) (defScope s_check_before_eye) .none kV16 dc16 pm16 an16 cd16 ct16),sl16⟩) (c16:W.codeIn K cd16 "check_before_eye" = true) (k16:W.keepIn K (.ref f16) = true)
  (a17:W.nsIn K mainGlobals "edge_numbers" = some (some (.ref f17))) (l17:K.lookup f17 = some ⟨oc17,od17,.func (W.fnOf "edge_numbers" "edge_numbers" (defArgs s_edge_numbers) (defBody s_edge_numbers) (defScope s_edge_numbers) .none kV17 dc17 pm17 an17 cd17 ct17),sl17⟩) (c17:W.codeIn K cd17 "edge_numbers" = true) (k17:W.keepIn K (.ref f17) = true)
  (a18:W.nsIn K mainGlobals "side" = some (some (.ref f18))) (l18:K.lookup f18 = some ⟨oc18,od18,.func (W.fnOf "side" "side" (defArgs s_side) (defBody s_side) (defScope s_side) .none kV18 dc18 pm18 an18 cd18 ct18),sl18⟩) (c18:W.codeIn K cd18 "side" = true) (k18:W.keepIn K (.ref f18) = true)
  (a19:W.nsIn K mainGlobals "had" = some (some (.ref f19))) (l19:K.lookup f19 = some ⟨oc19,od19,.func (W.fnOf "had" "had" (defArgs s_had) (defBody s_had) (defScope s_had) .none kV19 dc19 pm19 an19 cd19 ct19),sl19⟩) (c19:W.codeIn K cd19 "had" = true) (k19:W.keepIn K (.ref f19) = true)
  (a20:W.nsIn K mainGlobals "edge_sum" = some (some (.ref f20))) (l20:K.lookup f20 = some ⟨oc20,od20,.func (W.fnOf "edge_sum" "edge_sum" (defArgs s_edge_sum) (defBody s_edge_sum) (defScope s_edge_sum) .none kV20 dc20 pm20 an20 cd20 ct20),sl20⟩) (c20:W.codeIn K cd20 "edge_sum" = true) (k20:W.keepIn K (.ref f20) = true)
  (a21:W.nsIn K mainGlobals "weights" = some (some (.ref f21))) (l21:K.lookup f21 = some ⟨oc21,od21,.func (W.fnOf "weights" "weights" (defArgs s_weights) (defBody s_weights) (defScope s_weights) .none kV21 dc21 pm21 an21 cd21 ct21),sl21⟩) (c21:W.codeIn K cd21 "weights" = true) (k21:W.keepIn K (.ref f21) = true)
  (a22:W.nsIn K mainGlobals "seen_at" = some (some (.ref f22))) (l22:K.lookup f22 = some ⟨oc22,od22,.func (W.fnOf "seen_at" "seen_at" (defArgs s_seen_at) (defBody s_seen_at) (defScope s_seen_at) .none kV22 dc22 pm22 an22 cd22 ct22),sl22⟩) (c22:W.codeIn K cd22 "seen_at" = true) (k22:W.keepIn K (.ref f22) = true)
  (a23:W.nsIn K mainGlobals "_law_sights" = some (some (.ref f23))) (l23:K.lookup f23 = some ⟨oc23,od23,.func (W.fnOf "_law_sights" "_law_sights" (defArgs s__law_sights) (defBody s__law_sights) (defScope s__law_sights) .none kV23 dc23 pm23 an23 cd23 ct23),sl23⟩) (c23:W.codeIn K cd23 "_law_sights" = true) (k23:W.keepIn K (.ref f23) = true)
  (a24:W.nsIn K mainGlobals "_law_colour" = some (some (.ref f24))) (l24:K.lookup f24 = some ⟨oc24,od24,.func (W.fnOf "_law_colour" "_law_colour" (defArgs s__law_colour) (defBody s__law_colour) (defScope s__law_colour) .none kV24 dc24 pm24 an24 cd24 ct24),sl24⟩) (c24:W.codeIn K cd24 "_law_colour" = true) (k24:W.keepIn K (.ref f24) = true)
  (a25:W.nsIn K mainGlobals "_law_mixed" = some (some (.ref f25))) (l25:K.lookup f25 = some ⟨oc25,od25,.func (W.fnOf "_law_mixed" "_law_mixed" (defArgs s__law_mixed) (defBody s__law_mixed) (defScope s__law_mixed) .none kV25 dc25 pm25 an25 cd25 ct25),sl25⟩) (c25:W.codeIn K cd25 "_law_mixed" = true) (k25:W.keepIn K (.ref f25) = true)
  (a26:W.nsIn K mainGlobals "_law_draws" = some (some (.ref f26))) (l26:K.lookup f26 = some ⟨oc26,od26,.func (W.fnOf "_law_draws" "_law_draws" (defArgs s__law_draws) (defBody s__law_draws) (defScope s__law_draws) .none kV26 dc26 pm26 an26 cd26 ct26),sl26⟩) (c26:W.codeIn K cd26 "_law_draws" = true) (k26:W.keepIn K (.ref f26) = true)
  (a27:W.findIn K (.ref OC_Glass) "word" = some (some (.ref f27))) (l27:K.lookup f27 = some ⟨oc27,od27,.func (W.fnOf "word" "Glass.word" (defArgs s_Glass__word) (defBody s_Glass__word) (defScope s_Glass__word) .none kV27 dc27 pm27 an27 cd27 ct27),sl27⟩) (c27:W.codeIn K cd27 "Glass.word" = true) (k27:W.keepIn K (.ref f27) = true) (q27:W.isFn K (.ref f27) = true)
  (a28:W.findIn K (.ref OC_Patterned) "word" = some (some (.ref f28))) (l28:K.lookup f28 = some ⟨oc28,od28,.func (W.fnOf "word" "Patterned.word" (defArgs s_Patterned__word) (defBody s_Patterned__word) (defScope s_Patterned__word) .none kV28 dc28 pm28 an28 cd28 ct28),sl28⟩) (c28:W.codeIn K cd28 "Patterned.word" = true) (k28:W.keepIn K (.ref f28) = true) (q28:W.isFn K (.ref f28) = true)
  (a29:W.findIn K (.ref OC_Plain) "word" = some (some (.ref f29))) (l29:K.lookup f29 = some ⟨oc29,od29,.func (W.fnOf "word" "Plain.word" (defArgs s_Plain__word) (defBody s_Plain__word) (defScope s_Plain__word) .none kV29 dc29 pm29 an29 cd29 ct29),sl29⟩) (c29:W.codeIn K cd29 "Plain.word" = true) (k29:W.keepIn K (.ref f29) = true) (q29:W.isFn K (.ref f29) = true)
  (a30:W.findIn K (.ref OC_Shaded) "word" = some (some (.ref f30))) (l30:K.lookup f30 = some ⟨oc30,od30,.func (W.fnOf "word" "Shaded.word" (defArgs s_Shaded__word) (defBody s_Shaded__word) (defScope s_Shaded__word) .none kV30 dc30 pm30 an30 cd30 ct30),sl30⟩) (c30:W.codeIn K cd30 "Shaded.word" = true) (k30:W.keepIn K (.ref f30) = true) (q30:W.isFn K (.ref f30) = true)
  (a31:W.nsIn K mainGlobals "is_whole" = some (some (.ref f31))) (l31:K.lookup f31 = some ⟨oc31,od31,.func (W.fnOf "is_whole" "is_whole" (defArgs s_is_whole) (defBody s_is_whole) (defScope s_is_whole) .none kV31 dc31 pm31 an31 cd31 ct31),sl31⟩) (c31:W.codeIn K cd31 "is_whole" = true) (k31:W.keepIn K (.ref f31) = true)
  (a32:W.nsIn K mainGlobals "are_values" = some (some (.ref f32))) (l32:K.lookup f32 = some ⟨oc32,od32,.func (W.fnOf "are_values" "are_values" (defArgs s_are_values) (defBody s_are_values) (defScope s_are_values) .none kV32 dc32 pm32 an32 cd32 ct32),sl32⟩) (c32:W.codeIn K cd32 "are_values" = true) (k32:W.keepIn K (.ref f32) = true)
  (a33:W.nsIn K mainGlobals "is_corner" = some (some (.ref f33))) (l33:K.lookup f33 = some ⟨oc33,od33,.func (W.fnOf "is_corner" "is_corner" (defArgs s_is_corner) (defBody s_is_corner) (defScope s_is_corner) .none kV33 dc33 pm33 an33 cd33 ct33),sl33⟩) (c33:W.codeIn K cd33 "is_corner" = true) (k33:W.keepIn K (.ref f33) = true)
  (a34:W.nsIn K mainGlobals "check_triangle" = some (some (.ref f34))) (l34:K.lookup f34 = some ⟨oc34,od34,.func (W.fnOf "check_triangle" "check_triangle" (defArgs s_check_triangle) (defBody s_check_triangle) (defScope s_check_triangle) .none kV34 dc34 pm34 an34 cd34 ct34),sl34⟩) (c34:W.codeIn K cd34 "check_triangle" = true) (k34:W.keepIn K (.ref f34) = true)
  (a35:W.findIn K (.ref OC_Thing) "__init__" = some (some (.ref f35))) (l35:K.lookup f35 = some ⟨oc35,od35,.func (W.fnOf "__init__" "Thing.__init__" (defArgs s_Thing____init__) (defBody s_Thing____init__) (defScope s_Thing____init__) .none kV35 dc35 pm35 an35 cd35 ct35),sl35⟩) (c35:W.codeIn K cd35 "Thing.__init__" = true) (k35:W.keepIn K (.ref f35) = true) (q35:W.isFn K (.ref f35) = true)
  (a36:W.nsIn K mainGlobals "is_fraction" = some (some (.ref f36))) (l36:K.lookup f36 = some ⟨oc36,od36,.func (W.fnOf "is_fraction" "is_fraction" (defArgs s_is_fraction) (defBody s_is_fraction) (defScope s_is_fraction) .none kV36 dc36 pm36 an36 cd36 ct36),sl36⟩) (c36:W.codeIn K cd36 "is_fraction" = true) (k36:W.keepIn K (.ref f36) = true)
  (a37:W.nsIn K mainGlobals "check_colour" = some (some (.ref f37))) (l37:K.lookup f37 = some ⟨oc37,od37,.func (W.fnOf "check_colour" "check_colour" (defArgs s_check_colour) (defBody s_check_colour) (defScope s_check_colour) .none kV37 dc37 pm37 an37 cd37 ct37),sl37⟩) (c37:W.codeIn K cd37 "check_colour" = true) (k37:W.keepIn K (.ref f37) = true)
  (a38:W.nsIn K mainGlobals "check_part" = some (some (.ref f38))) (l38:K.lookup f38 = some ⟨oc38,od38,.func (W.fnOf "check_part" "check_part" (defArgs s_check_part) (defBody s_check_part) (defScope s_check_part) .none kV38 dc38 pm38 an38 cd38 ct38),sl38⟩) (c38:W.codeIn K cd38 "check_part" = true) (k38:W.keepIn K (.ref f38) = true)
  (a39:W.findIn K (.ref OC_Glass) "__init__" = some (some (.ref f39))) (l39:K.lookup f39 = some ⟨oc39,od39,.func (W.fnOf "__init__" "Glass.__init__" (defArgs s_Glass____init__) (defBody s_Glass____init__) (defScope s_Glass____init__) .none kV39 dc39 pm39 an39 cd39 ct39),sl39⟩) (c39:W.codeIn K cd39 "Glass.__init__" = true) (k39:W.keepIn K (.ref f39) = true) (q39:W.isFn K (.ref f39) = true)
  (a40:W.findIn K (.ref OC_Plain) "__init__" = some (some (.ref f40))) (l40:K.lookup f40 = some ⟨oc40,od40,.func (W.fnOf "__init__" "Plain.__init__" (defArgs s_Plain____init__) (defBody s_Plain____init__) (defScope s_Plain____init__) .none kV40 dc40 pm40 an40 cd40 ct40),sl40⟩) (c40:W.codeIn K cd40 "Plain.__init__" = true) (k40:W.keepIn K (.ref f40) = true) (q40:W.isFn K (.ref f40) = true)
  (a41:W.nsIn K mainGlobals "check_values" = some (some (.ref f41))) (l41:K.lookup f41 = some ⟨oc41,od41,.func (W.fnOf "check_values" "check_values" (defArgs s_check_values) (defBody s_check_values) (defScope s_check_values) .none kV41 dc41 pm41 an41 cd41 ct41),sl41⟩) (c41:W.codeIn K cd41 "check_values" = true) (k41:W.keepIn K (.ref f41) = true)
  (a42:W.findIn K (.ref OC_Shaded) "__init__" = some (some (.ref f42))) (l42:K.lookup f42 = some ⟨oc42,od42,.func (W.fnOf "__init__" "Shaded.__init__" (defArgs s_Shaded____init__) (defBody s_Shaded____init__) (defScope s_Shaded____init__) .none kV42 dc42 pm42 an42 cd42 ct42),sl42⟩) (c42:W.codeIn K cd42 "Shaded.__init__" = true) (k42:W.keepIn K (.ref f42) = true) (q42:W.isFn K (.ref f42) = true)
  (a43:W.nsIn K mainGlobals "_law_flat" = some (some (.ref f43))) (l43:K.lookup f43 = some ⟨oc43,od43,.func (W.fnOf "_law_flat" "_law_flat" (defArgs s__law_flat) (defBody s__law_flat) (defScope s__law_flat) .none kV43 dc43 pm43 an43 cd43 ct43),sl43⟩) (c43:W.codeIn K cd43 "_law_flat" = true) (k43:W.keepIn K (.ref f43) = true)
  (a44:W.nsIn K mainGlobals "check_pattern" = some (some (.ref f44))) (l44:K.lookup f44 = some ⟨oc44,od44,.func (W.fnOf "check_pattern" "check_pattern" (defArgs s_check_pattern) (defBody s_check_pattern) (defScope s_check_pattern) .none kV44 dc44 pm44 an44 cd44 ct44),sl44⟩) (c44:W.codeIn K cd44 "check_pattern" = true) (k44:W.keepIn K (.ref f44) = true)
  (a45:W.nsIn K mainGlobals "copied" = some (some (.ref f45))) (l45:K.lookup f45 = some ⟨oc45,od45,.func (W.fnOf "copied" "copied" (defArgs s_copied) (defBody s_copied) (defScope s_copied) .none kV45 dc45 pm45 an45 cd45 ct45),sl45⟩) (c45:W.codeIn K cd45 "copied" = true) (k45:W.keepIn K (.ref f45) = true)
  (a46:W.findIn K (.ref OC_Patterned) "__init__" = some (some (.ref f46))) (l46:K.lookup f46 = some ⟨oc46,od46,.func (W.fnOf "__init__" "Patterned.__init__" (defArgs s_Patterned____init__) (defBody s_Patterned____init__) (defScope s_Patterned____init__) .none kV46 dc46 pm46 an46 cd46 ct46),sl46⟩) (c46:W.codeIn K cd46 "Patterned.__init__" = true) (k46:W.keepIn K (.ref f46) = true) (q46:W.isFn K (.ref f46) = true)
  (a47:W.nsIn K mainGlobals "_law_pattern" = some (some (.ref f47))) (l47:K.lookup f47 = some ⟨oc47,od47,.func (W.fnOf "_law_pattern" "_law_pattern" (defArgs s__law_pattern) (defBody s__law_pattern) (defScope s__law_pattern) .none kV47 dc47 pm47 an47 cd47 ct47),sl47⟩) (c47:W.codeIn K cd47 "_law_pattern" = true) (k47:W.keepIn K (.ref f47) = true)
  (a48:W.nsIn K mainGlobals "_law_thing" = some (some (.ref f48))) (l48:K.lookup f48 = some ⟨oc48,od48,.func (W.fnOf "_law_thing" "_law_thing" (defArgs s__law_thing) (defBody s__law_thing) (defScope s__law_thing) .none kV48 dc48 pm48 an48 cd48 ct48),sl48⟩) (c48:W.codeIn K cd48 "_law_thing" = true) (k48:W.keepIn K (.ref f48) = true)
  (a49:W.nsIn K mainGlobals "_law_corner" = some (some (.ref f49))) (l49:K.lookup f49 = some ⟨oc49,od49,.func (W.fnOf "_law_corner" "_law_corner" (defArgs s__law_corner) (defBody s__law_corner) (defScope s__law_corner) .none kV49 dc49 pm49 an49 cd49 ct49),sl49⟩) (c49:W.codeIn K cd49 "_law_corner" = true) (k49:W.keepIn K (.ref f49) = true)
  (a50:W.nsIn K mainGlobals "_law_triangles" = some (some (.ref f50))) (l50:K.lookup f50 = some ⟨oc50,od50,.func (W.fnOf "_law_triangles" "_law_triangles" (defArgs s__law_triangles) (defBody s__law_triangles) (defScope s__law_triangles) .none kV50 dc50 pm50 an50 cd50 ct50),sl50⟩) (c50:W.codeIn K cd50 "_law_triangles" = true) (k50:W.keepIn K (.ref f50) = true)
  (a51:W.nsIn K mainGlobals "_law_things" = some (some (.ref f51))) (l51:K.lookup f51 = some ⟨oc51,od51,.func (W.fnOf "_law_things" "_law_things" (defArgs s__law_things) (defBody s__law_things) (defScope s__law_things) .none kV51 dc51 pm51 an51 cd51 ct51),sl51⟩) (c51:W.codeIn K cd51 "_law_things" = true) (k51:W.keepIn K (.ref f51) = true)
  (a52:W.nsIn K mainGlobals "minus" = some (some (.ref f52))) (l52:K.lookup f52 = some ⟨oc52,od52,.func (W.fnOf "minus" "minus" (defArgs s_minus) (defBody s_minus) (defScope s_minus) .none kV52 dc52 pm52 an52 cd52 ct52),sl52⟩) (c52:W.codeIn K cd52 "minus" = true) (k52:W.keepIn K (.ref f52) = true)
  (a53:W.nsIn K mainGlobals "plus" = some (some (.ref f53))) (l53:K.lookup f53 = some ⟨oc53,od53,.func (W.fnOf "plus" "plus" (defArgs s_plus) (defBody s_plus) (defScope s_plus) .none kV53 dc53 pm53 an53 cd53 ct53),sl53⟩) (c53:W.codeIn K cd53 "plus" = true) (k53:W.keepIn K (.ref f53) = true)
  (a54:W.nsIn K mainGlobals "product" = some (some (.ref f54))) (l54:K.lookup f54 = some ⟨oc54,od54,.func (W.fnOf "product" "product" (defArgs s_product) (defBody s_product) (defScope s_product) .none kV54 dc54 pm54 an54 cd54 ct54),sl54⟩) (c54:W.codeIn K cd54 "product" = true) (k54:W.keepIn K (.ref f54) = true)
  (a55:W.nsIn K mainGlobals "laid_over" = some (some (.ref f55))) (l55:K.lookup f55 = some ⟨oc55,od55,.func (W.fnOf "laid_over" "laid_over" (defArgs s_laid_over) (defBody s_laid_over) (defScope s_laid_over) .none kV55 dc55 pm55 an55 cd55 ct55),sl55⟩) (c55:W.codeIn K cd55 "laid_over" = true) (k55:W.keepIn K (.ref f55) = true)
  (a56:W.nsIn K mainGlobals "under" = some (some (.ref f56))) (l56:K.lookup f56 = some ⟨oc56,od56,.func (W.fnOf "under" "under" (defArgs s_under) (defBody s_under) (defScope s_under) .none kV56 dc56 pm56 an56 cd56 ct56),sl56⟩) (c56:W.codeIn K cd56 "under" = true) (k56:W.keepIn K (.ref f56) = true)
  (a57:W.nsIn K mainGlobals "layers_over" = some (some (.ref f57))) (l57:K.lookup f57 = some ⟨oc57,od57,.func (W.fnOf "layers_over" "layers_over" (defArgs s_layers_over) (defBody s_layers_over) (defScope s_layers_over) .none kV57 dc57 pm57 an57 cd57 ct57),sl57⟩) (c57:W.codeIn K cd57 "layers_over" = true) (k57:W.keepIn K (.ref f57) = true)
  (a58:W.nsIn K mainGlobals "nearest_of" = some (some (.ref f58))) (l58:K.lookup f58 = some ⟨oc58,od58,.func (W.fnOf "nearest_of" "nearest_of" (defArgs s_nearest_of) (defBody s_nearest_of) (defScope s_nearest_of) .none kV58 dc58 pm58 an58 cd58 ct58),sl58⟩) (c58:W.codeIn K cd58 "nearest_of" = true) (k58:W.keepIn K (.ref f58) = true)
  (a59:W.nsIn K mainGlobals "colour_of" = some (some (.ref f59))) (l59:K.lookup f59 = some ⟨oc59,od59,.func (W.fnOf "colour_of" "colour_of" (defArgs s_colour_of) (defBody s_colour_of) (defScope s_colour_of) .none kV59 dc59 pm59 an59 cd59 ct59),sl59⟩) (c59:W.codeIn K cd59 "colour_of" = true) (k59:W.keepIn K (.ref f59) = true)
  (a60:W.nsIn K mainGlobals "sights_at" = some (some (.ref f60))) (l60:K.lookup f60 = some ⟨oc60,od60,.func (W.fnOf "sights_at" "sights_at" (defArgs s_sights_at) (defBody s_sights_at) (defScope s_sights_at) .none kV60 dc60 pm60 an60 cd60 ct60),sl60⟩) (c60:W.codeIn K cd60 "sights_at" = true) (k60:W.keepIn K (.ref f60) = true)
  (a61:W.nsIn K mainGlobals "colour_seen" = some (some (.ref f61))) (l61:K.lookup f61 = some ⟨oc61,od61,.func (W.fnOf "colour_seen" "colour_seen" (defArgs s_colour_seen) (defBody s_colour_seen) (defScope s_colour_seen) .none kV61 dc61 pm61 an61 cd61 ct61),sl61⟩) (c61:W.codeIn K cd61 "colour_seen" = true) (k61:W.keepIn K (.ref f61) = true)
  (a62:W.nsIn K mainGlobals "law" = some (some (.ref f62))) (l62:K.lookup f62 = some ⟨oc62,od62,.func (W.fnOf "law" "law" (defArgs s_law) (defBody s_law) (defScope s_law) .none kV62 dc62 pm62 an62 cd62 ct62),sl62⟩) (c62:W.codeIn K cd62 "law" = true) (k62:W.keepIn K (.ref f62) = true)
  (og_Glass:W.plainGet K OC_Glass Str.empty = true) (oh_Glass:W.hasDictIn K OC_Glass = true) (oo_Glass:W.plainOver K OC_Glass = true) (os_Glass:W.findIn K (.ref OC_Glass) "__setattr__" = some (some (.builtin "object.__setattr__")))
  (on_Glass_colour:W.findIn K (.ref OC_Glass) "colour" = some none)
  (on_Glass_part:W.findIn K (.ref OC_Glass) "part" = some none)
  (on_Glass_pattern:W.findIn K (.ref OC_Glass) "pattern" = some none)
  (on_Glass_triangle:W.findIn K (.ref OC_Glass) "triangle" = some none)
  (ot_Glass_colour_at:W.findIn K (.ref OC_Glass) "colour_at" = some (some (.ref f2)))
  (ot_Glass_is_glass:W.findIn K (.ref OC_Glass) "is_glass" = some (some (.ref f8)))
  (ot_Glass_word:W.findIn K (.ref OC_Glass) "word" = some (some (.ref f27)))
  (om_Glass:W.makesIn K OC_Glass = true) (ok_Glass:W.keepIn K (.ref OC_Glass) = true)
  (og_Patterned:W.plainGet K OC_Patterned Str.empty = true) (oh_Patterned:W.hasDictIn K OC_Patterned = true) (oo_Patterned:W.plainOver K OC_Patterned = true) (os_Patterned:W.findIn K (.ref OC_Patterned) "__setattr__" = some (some (.builtin "object.__setattr__")))
  (on_Patterned_colour:W.findIn K (.ref OC_Patterned) "colour" = some none)
  (on_Patterned_part:W.findIn K (.ref OC_Patterned) "part" = some none)
  (on_Patterned_pattern:W.findIn K (.ref OC_Patterned) "pattern" = some none)
  (on_Patterned_triangle:W.findIn K (.ref OC_Patterned) "triangle" = some none)
  (ot_Patterned_colour_at:W.findIn K (.ref OC_Patterned) "colour_at" = some (some (.ref f5)))
  (ot_Patterned_is_glass:W.findIn K (.ref OC_Patterned) "is_glass" = some (some (.ref f9)))
  (ot_Patterned_word:W.findIn K (.ref OC_Patterned) "word" = some (some (.ref f28)))
  (om_Patterned:W.makesIn K OC_Patterned = true) (ok_Patterned:W.keepIn K (.ref OC_Patterned) = true)
  (og_Plain:W.plainGet K OC_Plain Str.empty = true) (oh_Plain:W.hasDictIn K OC_Plain = true) (oo_Plain:W.plainOver K OC_Plain = true) (os_Plain:W.findIn K (.ref OC_Plain) "__setattr__" = some (some (.builtin "object.__setattr__")))
  (on_Plain_colour:W.findIn K (.ref OC_Plain) "colour" = some none)
  (on_Plain_part:W.findIn K (.ref OC_Plain) "part" = some none)
  (on_Plain_pattern:W.findIn K (.ref OC_Plain) "pattern" = some none)
  (on_Plain_triangle:W.findIn K (.ref OC_Plain) "triangle" = some none)
  (ot_Plain_colour_at:W.findIn K (.ref OC_Plain) "colour_at" = some (some (.ref f6)))
  (ot_Plain_is_glass:W.findIn K (.ref OC_Plain) "is_glass" = some (some (.ref f9)))
  (ot_Plain_word:W.findIn K (.ref OC_Plain) "word" = some (some (.ref f29)))
  (om_Plain:W.makesIn K OC_Plain = true) (ok_Plain:W.keepIn K (.ref OC_Plain) = true)
  (og_Shaded:W.plainGet K OC_Shaded Str.empty = true) (oh_Shaded:W.hasDictIn K OC_Shaded = true) (oo_Shaded:W.plainOver K OC_Shaded = true) (os_Shaded:W.findIn K (.ref OC_Shaded) "__setattr__" = some (some (.builtin "object.__setattr__")))
  (on_Shaded_colour:W.findIn K (.ref OC_Shaded) "colour" = some none)
  (on_Shaded_part:W.findIn K (.ref OC_Shaded) "part" = some none)
  (on_Shaded_pattern:W.findIn K (.ref OC_Shaded) "pattern" = some none)
  (on_Shaded_triangle:W.findIn K (.ref OC_Shaded) "triangle" = some none)
  (ot_Shaded_colour_at:W.findIn K (.ref OC_Shaded) "colour_at" = some (some (.ref f7)))
  (ot_Shaded_is_glass:W.findIn K (.ref OC_Shaded) "is_glass" = some (some (.ref f9)))
  (ot_Shaded_word:W.findIn K (.ref OC_Shaded) "word" = some (some (.ref f30)))
  (om_Shaded:W.makesIn K OC_Shaded = true) (ok_Shaded:W.keepIn K (.ref OC_Shaded) = true)
  (us_Thing:W.specialIn K (.ref OC_Thing) "__getattribute__" = some (some (.builtin "type.__getattribute__"))) (ur_Thing:W.readsIn K OC_Thing (.type "type") = true) (uf_Thing:W.findCls K (.ref OC_Thing) (.type "type") "__init__" = some (.val (.ref f35))) (uh_Thing:W.handedIn (.ref f35) = true)
  (z0:W.nsIn K mainGlobals "abs" = some none)
  (z1:W.nsIn K mainGlobals "all" = some none)
  (z2:W.nsIn K mainGlobals "bool" = some none)
  (z3:W.nsIn K mainGlobals "enumerate" = some none)
  (z4:W.nsIn K mainGlobals "int" = some none)
  (z5:W.nsIn K mainGlobals "isinstance" = some none)
  (z6:W.nsIn K mainGlobals "len" = some none)
  (z7:W.nsIn K mainGlobals "list" = some none)
  (z8:W.nsIn K mainGlobals "range" = some none)
  (z9:W.nsIn K mainGlobals "tuple" = some none)
  (z10:W.nsIn K mainGlobals "zip" = some none)
  (gc0:W.nsIn K mainGlobals "MOST_VALUES" = some (some (.int 3 tk0)))
  (gta0:W.nsIn K mainGlobals "COUNTS" = some (some (.ref GA0))) (gtl0:K.lookup GA0 = some ⟨.type "tuple", godt0,.seq #[.int 1 gtk0_0,.int 2 gtk0_1,.int 4 gtk0_2,.int 8 gtk0_3,.int 16 gtk0_4] gnn0,gsl0⟩)
  (xa0:W.nsIn K mainGlobals "BadPattern" = some (some (.ref X0))) (xb0:W.excIn K X0 veMro "ValueError.__new__" = true)
  (xa1:W.nsIn K mainGlobals "BadThing" = some (some (.ref X1))) (xb1:W.excIn K X1 veMro "ValueError.__new__" = true)
  (xa2:W.nsIn K mainGlobals "BadTriangle" = some (some (.ref X2))) (xb2:W.excIn K X2 veMro "ValueError.__new__" = true)
  : ∃ fd:FuncData,(∀ (s:Shared) (v:Value),BindsTo s fd ⟨[v],[]⟩ [("_law_script", v)]) ∧ ∀ base:Heap,K.In base → base.Ns mainGlobals mg → FnOk l.prog w K mg base (CXR l.prog w) 11 fa fd ["_law_script"] (spLaw K):=by
 have e:=hfa.symm.trans (W.mg_of X G a62)
 cases e
 have T:Txt K mg:=⟨W.mg_none_of X G z0,W.mg_none_of X G z1,W.mg_none_of X G z2,W.mg_none_of X G z3,W.mg_none_of X G z4,W.mg_none_of X G z5,W.mg_none_of X G z6,W.mg_none_of X G z7,W.mg_none_of X G z8,W.mg_none_of X G z9,W.mg_none_of X G z10,⟨_,W.mg_of X G gc0⟩,⟨_,_,_,_,W.mg_of X G gta0,gtl0,rfl,rfl,show (5:Nat) ≤ sizeLine by decide,(.cons ⟨_,rfl⟩ (.cons ⟨_,rfl⟩ (.cons ⟨_,rfl⟩ (.cons ⟨_,rfl⟩ (.cons ⟨_,rfl⟩ .nil)))))⟩,⟨_,W.mg_of X G xa0,xb0⟩,⟨_,W.mg_of X G xa1,xb1⟩,⟨_,W.mg_of X G xa2,xb2⟩,(.cons (fun C hC=>by cases (W.mg_of X G ob_Plain).symm.trans hC;exact ⟨⟨og_Plain,oh_Plain,oo_Plain,os_Plain⟩,on_Plain_colour⟩) (.cons (fun C hC=>by cases (W.mg_of X G ob_Shaded).symm.trans hC;exact ⟨⟨og_Shaded,oh_Shaded,oo_Shaded,os_Shaded⟩,on_Shaded_colour⟩) (.cons (fun C hC=>by cases (W.mg_of X G ob_Patterned).symm.trans hC;exact ⟨⟨og_Patterned,oh_Patterned,oo_Patterned,os_Patterned⟩,on_Patterned_colour⟩) (.cons (fun C hC=>by cases (W.mg_of X G ob_Glass).symm.trans hC;exact ⟨⟨og_Glass,oh_Glass,oo_Glass,os_Glass⟩,on_Glass_colour⟩) .nil)))),(.cons (fun C hC=>by cases (W.mg_of X G ob_Plain).symm.trans hC;exact ⟨⟨og_Plain,oh_Plain,oo_Plain,os_Plain⟩,on_Plain_part⟩) (.cons (fun C hC=>by cases (W.mg_of X G ob_Shaded).symm.trans hC;exact ⟨⟨og_Shaded,oh_Shaded,oo_Shaded,os_Shaded⟩,on_Shaded_part⟩) (.cons (fun C hC=>by cases (W.mg_of X G ob_Patterned).symm.trans hC;exact ⟨⟨og_Patterned,oh_Patterned,oo_Patterned,os_Patterned⟩,on_Patterned_part⟩) (.cons (fun C hC=>by cases (W.mg_of X G ob_Glass).symm.trans hC;exact ⟨⟨og_Glass,oh_Glass,oo_Glass,os_Glass⟩,on_Glass_part⟩) .nil)))),(.cons (fun C hC=>by cases (W.mg_of X G ob_Plain).symm.trans hC;exact ⟨⟨og_Plain,oh_Plain,oo_Plain,os_Plain⟩,on_Plain_pattern⟩) (.cons (fun C hC=>by cases (W.mg_of X G ob_Shaded).symm.trans hC;exact ⟨⟨og_Shaded,oh_Shaded,oo_Shaded,os_Shaded⟩,on_Shaded_pattern⟩) (.cons (fun C hC=>by cases (W.mg_of X G ob_Patterned).symm.trans hC;exact ⟨⟨og_Patterned,oh_Patterned,oo_Patterned,os_Patterned⟩,on_Patterned_pattern⟩) (.cons (fun C hC=>by cases (W.mg_of X G ob_Glass).symm.trans hC;exact ⟨⟨og_Glass,oh_Glass,oo_Glass,os_Glass⟩,on_Glass_pattern⟩) .nil)))),(.cons (fun C hC=>by cases (W.mg_of X G ob_Plain).symm.trans hC;exact ⟨⟨og_Plain,oh_Plain,oo_Plain,os_Plain⟩,on_Plain_triangle⟩) (.cons (fun C hC=>by cases (W.mg_of X G ob_Shaded).symm.trans hC;exact ⟨⟨og_Shaded,oh_Shaded,oo_Shaded,os_Shaded⟩,on_Shaded_triangle⟩) (.cons (fun C hC=>by cases (W.mg_of X G ob_Patterned).symm.trans hC;exact ⟨⟨og_Patterned,oh_Patterned,oo_Patterned,os_Patterned⟩,on_Patterned_triangle⟩) (.cons (fun C hC=>by cases (W.mg_of X G ob_Glass).symm.trans hC;exact ⟨⟨og_Glass,oh_Glass,oo_Glass,os_Glass⟩,on_Glass_triangle⟩) .nil))))⟩
 have F1:=fun_mk (st:=s__law_cell_at) l1 c1 k1
 have D1:Def K mg "_law_cell_at" s__law_cell_at ["_law_script", "_law_k"]:=⟨_,_,F1,F1.binds (ps:=["_law_script", "_law_k"]) fun _ _ _ _ _ _ us hl=>match us,hl with | [_,_],_=>rfl,W.mg_of X G a1⟩
 have F2:=fun_mk (st:=s_Glass__colour_at) l2 c2 k2
 have B2:=F2.binds (ps:=["self", "values"]) fun _ _ _ _ _ _ us hl=>match us,hl with | [_,_],_=>rfl
 have F3:=fun_mk (st:=s_down) l3 c3 k3
 have D3:Def K mg "down" s_down ["one"]:=⟨_,_,F3,F3.binds (ps:=["one"]) fun _ _ _ _ _ _ us hl=>match us,hl with | [_],_=>rfl,W.mg_of X G a3⟩
 have F4:=fun_mk (st:=s_entry_at) l4 c4 k4
 have D4:Def K mg "entry_at" s_entry_at ["pattern", "u", "v"]:=⟨_,_,F4,F4.binds (ps:=["pattern", "u", "v"]) fun _ _ _ _ _ _ us hl=>match us,hl with | [_,_,_],_=>rfl,W.mg_of X G a4⟩
 have F5:=fun_mk (st:=s_Patterned__colour_at) l5 c5 k5
 have B5:=F5.binds (ps:=["self", "values"]) fun _ _ _ _ _ _ us hl=>match us,hl with | [_,_],_=>rfl
 have F6:=fun_mk (st:=s_Plain__colour_at) l6 c6 k6
 have B6:=F6.binds (ps:=["self", "values"]) fun _ _ _ _ _ _ us hl=>match us,hl with | [_,_],_=>rfl
 have F7:=fun_mk (st:=s_Shaded__colour_at) l7 c7 k7
 have B7:=F7.binds (ps:=["self", "values"]) fun _ _ _ _ _ _ us hl=>match us,hl with | [_,_],_=>rfl
 have F8:=fun_mk (st:=s_Glass__is_glass) l8 c8 k8
 have B8:=F8.binds (ps:=["self"]) fun _ _ _ _ _ _ us hl=>match us,hl with | [_],_=>rfl
 have F9:=fun_mk (st:=s_Thing__is_glass) l9 c9 k9
 have B9:=F9.binds (ps:=["self"]) fun _ _ _ _ _ _ us hl=>match us,hl with | [_],_=>rfl
 have F10:=fun_mk (st:=s__law_less) l10 c10 k10
 have D10:Def K mg "_law_less" s__law_less ["_law_one", "_law_other"]:=⟨_,_,F10,F10.binds (ps:=["_law_one", "_law_other"]) fun _ _ _ _ _ _ us hl=>match us,hl with | [_,_],_=>rfl,W.mg_of X G a10⟩
 have F11:=fun_mk (st:=s_greatest_divisor) l11 c11 k11
 have D11:Def K mg "greatest_divisor" s_greatest_divisor ["numbers"]:=⟨_,_,F11,F11.binds (ps:=["numbers"]) fun _ _ _ _ _ _ us hl=>match us,hl with | [_],_=>rfl,W.mg_of X G a11⟩
 have F12:=fun_mk (st:=s_ratio) l12 c12 k12
 have D12:Def K mg "ratio" s_ratio ["top", "bottom"]:=⟨_,_,F12,F12.binds (ps:=["top", "bottom"]) fun _ _ _ _ _ _ us hl=>match us,hl with | [_,_],_=>rfl,W.mg_of X G a12⟩
 have F13:=fun_mk (st:=s_summed_products) l13 c13 k13
 have D13:Def K mg "summed_products" s_summed_products ["three", "other"]:=⟨_,_,F13,F13.binds (ps:=["three", "other"]) fun _ _ _ _ _ _ us hl=>match us,hl with | [_,_],_=>rfl,W.mg_of X G a13⟩
 have F14:=fun_mk (st:=s_weighed_h) l14 c14 k14
 have D14:Def K mg "weighed_h" s_weighed_h ["triangle", "amounts"]:=⟨_,_,F14,F14.binds (ps:=["triangle", "amounts"]) fun _ _ _ _ _ _ us hl=>match us,hl with | [_,_],_=>rfl,W.mg_of X G a14⟩
 have F15:=fun_mk (st:=s_depth_and_values) l15 c15 k15
 have D15:Def K mg "depth_and_values" s_depth_and_values ["triangle", "amounts"]:=⟨_,_,F15,F15.binds (ps:=["triangle", "amounts"]) fun _ _ _ _ _ _ us hl=>match us,hl with | [_,_],_=>rfl,W.mg_of X G a15⟩
 have F16:=fun_mk (st:=s_check_before_eye) l16 c16 k16
 have D16:Def K mg "check_before_eye" s_check_before_eye ["corners"]:=⟨_,_,F16,F16.binds (ps:=["corners"]) fun _ _ _ _ _ _ us hl=>match us,hl with | [_],_=>rfl,W.mg_of X G a16⟩
 have F17:=fun_mk (st:=s_edge_numbers) l17 c17 k17
 have D17:Def K mg "edge_numbers" s_edge_numbers ["one", "other"]:=⟨_,_,F17,F17.binds (ps:=["one", "other"]) fun _ _ _ _ _ _ us hl=>match us,hl with | [_,_],_=>rfl,W.mg_of X G a17⟩
 have F18:=fun_mk (st:=s_side) l18 c18 k18
 have D18:Def K mg "side" s_side ["one", "other", "point"]:=⟨_,_,F18,F18.binds (ps:=["one", "other", "point"]) fun _ _ _ _ _ _ us hl=>match us,hl with | [_,_,_],_=>rfl,W.mg_of X G a18⟩
 have F19:=fun_mk (st:=s_had) l19 c19 k19
 have D19:Def K mg "had" s_had ["triangle", "point"]:=⟨_,_,F19,F19.binds (ps:=["triangle", "point"]) fun _ _ _ _ _ _ us hl=>match us,hl with | [_,_],_=>rfl,W.mg_of X G a19⟩
 have F20:=fun_mk (st:=s_edge_sum) l20 c20 k20
 have D20:Def K mg "edge_sum" s_edge_sum ["one", "other", "point"]:=⟨_,_,F20,F20.binds (ps:=["one", "other", "point"]) fun _ _ _ _ _ _ us hl=>match us,hl with | [_,_,_],_=>rfl,W.mg_of X G a20⟩
 have F21:=fun_mk (st:=s_weights) l21 c21 k21
 have D21:Def K mg "weights" s_weights ["triangle", "point"]:=⟨_,_,F21,F21.binds (ps:=["triangle", "point"]) fun _ _ _ _ _ _ us hl=>match us,hl with | [_,_],_=>rfl,W.mg_of X G a21⟩
 have F22:=fun_mk (st:=s_seen_at) l22 c22 k22
 have D22:Def K mg "seen_at" s_seen_at ["triangle", "point"]:=⟨_,_,F22,F22.binds (ps:=["triangle", "point"]) fun _ _ _ _ _ _ us hl=>match us,hl with | [_,_],_=>rfl,W.mg_of X G a22⟩
 have F23:=fun_mk (st:=s__law_sights) l23 c23 k23
 have D23:Def K mg "_law_sights" s__law_sights ["_law_things_here", "_law_point"]:=⟨_,_,F23,F23.binds (ps:=["_law_things_here", "_law_point"]) fun _ _ _ _ _ _ us hl=>match us,hl with | [_,_],_=>rfl,W.mg_of X G a23⟩
 have F24:=fun_mk (st:=s__law_colour) l24 c24 k24
 have D24:Def K mg "_law_colour" s__law_colour ["_law_things_here", "_law_point", "_law_ground"]:=⟨_,_,F24,F24.binds (ps:=["_law_things_here", "_law_point", "_law_ground"]) fun _ _ _ _ _ _ us hl=>match us,hl with | [_,_,_],_=>rfl,W.mg_of X G a24⟩
 have F25:=fun_mk (st:=s__law_mixed) l25 c25 k25
 have D25:Def K mg "_law_mixed" s__law_mixed ["_law_cell", "_law_k"]:=⟨_,_,F25,F25.binds (ps:=["_law_cell", "_law_k"]) fun _ _ _ _ _ _ us hl=>match us,hl with | [_,_],_=>rfl,W.mg_of X G a25⟩
 have F26:=fun_mk (st:=s__law_draws) l26 c26 k26
 have D26:Def K mg "_law_draws" s__law_draws ["_law_cell", "_law_many"]:=⟨_,_,F26,F26.binds (ps:=["_law_cell", "_law_many"]) fun _ _ _ _ _ _ us hl=>match us,hl with | [_,_],_=>rfl,W.mg_of X G a26⟩
 have F27:=fun_mk (st:=s_Glass__word) l27 c27 k27
 have B27:=F27.binds (ps:=["self"]) fun _ _ _ _ _ _ us hl=>match us,hl with | [_],_=>rfl
 have F28:=fun_mk (st:=s_Patterned__word) l28 c28 k28
 have B28:=F28.binds (ps:=["self"]) fun _ _ _ _ _ _ us hl=>match us,hl with | [_],_=>rfl
 have F29:=fun_mk (st:=s_Plain__word) l29 c29 k29
 have B29:=F29.binds (ps:=["self"]) fun _ _ _ _ _ _ us hl=>match us,hl with | [_],_=>rfl
 have F30:=fun_mk (st:=s_Shaded__word) l30 c30 k30
 have B30:=F30.binds (ps:=["self"]) fun _ _ _ _ _ _ us hl=>match us,hl with | [_],_=>rfl
 have F31:=fun_mk (st:=s_is_whole) l31 c31 k31
 have D31:Def K mg "is_whole" s_is_whole ["thing"]:=⟨_,_,F31,F31.binds (ps:=["thing"]) fun _ _ _ _ _ _ us hl=>match us,hl with | [_],_=>rfl,W.mg_of X G a31⟩
 have F32:=fun_mk (st:=s_are_values) l32 c32 k32
 have D32:Def K mg "are_values" s_are_values ["thing"]:=⟨_,_,F32,F32.binds (ps:=["thing"]) fun _ _ _ _ _ _ us hl=>match us,hl with | [_],_=>rfl,W.mg_of X G a32⟩
 have F33:=fun_mk (st:=s_is_corner) l33 c33 k33
 have D33:Def K mg "is_corner" s_is_corner ["thing"]:=⟨_,_,F33,F33.binds (ps:=["thing"]) fun _ _ _ _ _ _ us hl=>match us,hl with | [_],_=>rfl,W.mg_of X G a33⟩
 have F34:=fun_mk (st:=s_check_triangle) l34 c34 k34
 have D34:Def K mg "check_triangle" s_check_triangle ["triangle"]:=⟨_,_,F34,F34.binds (ps:=["triangle"]) fun _ _ _ _ _ _ us hl=>match us,hl with | [_],_=>rfl,W.mg_of X G a34⟩
 have F35:=fun_mk (st:=s_Thing____init__) l35 c35 k35
 have B35:=F35.binds (ps:=["self", "triangle"]) fun _ _ _ _ _ _ us hl=>match us,hl with | [_,_],_=>rfl
 have F36:=fun_mk (st:=s_is_fraction) l36 c36 k36
 have D36:Def K mg "is_fraction" s_is_fraction ["thing"]:=⟨_,_,F36,F36.binds (ps:=["thing"]) fun _ _ _ _ _ _ us hl=>match us,hl with | [_],_=>rfl,W.mg_of X G a36⟩
 have F37:=fun_mk (st:=s_check_colour) l37 c37 k37
 have D37:Def K mg "check_colour" s_check_colour ["colour"]:=⟨_,_,F37,F37.binds (ps:=["colour"]) fun _ _ _ _ _ _ us hl=>match us,hl with | [_],_=>rfl,W.mg_of X G a37⟩
 have F38:=fun_mk (st:=s_check_part) l38 c38 k38
 have D38:Def K mg "check_part" s_check_part ["part"]:=⟨_,_,F38,F38.binds (ps:=["part"]) fun _ _ _ _ _ _ us hl=>match us,hl with | [_],_=>rfl,W.mg_of X G a38⟩
 have F39:=fun_mk (st:=s_Glass____init__) l39 c39 k39
 have B39:=F39.binds (ps:=["self", "triangle", "colour", "part"]) fun _ _ _ _ _ _ us hl=>match us,hl with | [_,_,_,_],_=>rfl
 have F40:=fun_mk (st:=s_Plain____init__) l40 c40 k40
 have B40:=F40.binds (ps:=["self", "triangle", "colour"]) fun _ _ _ _ _ _ us hl=>match us,hl with | [_,_,_],_=>rfl
 have F41:=fun_mk (st:=s_check_values) l41 c41 k41
 have D41:Def K mg "check_values" s_check_values ["triangle", "least"]:=⟨_,_,F41,F41.binds (ps:=["triangle", "least"]) fun _ _ _ _ _ _ us hl=>match us,hl with | [_,_],_=>rfl,W.mg_of X G a41⟩
 have F42:=fun_mk (st:=s_Shaded____init__) l42 c42 k42
 have B42:=F42.binds (ps:=["self", "triangle"]) fun _ _ _ _ _ _ us hl=>match us,hl with | [_,_],_=>rfl
 have F43:=fun_mk (st:=s__law_flat) l43 c43 k43
 have D43:Def K mg "_law_flat" s__law_flat ["_law_thing_here", "_law_triangle"]:=⟨_,_,F43,F43.binds (ps:=["_law_thing_here", "_law_triangle"]) fun _ _ _ _ _ _ us hl=>match us,hl with | [_,_],_=>rfl,W.mg_of X G a43⟩
 have F44:=fun_mk (st:=s_check_pattern) l44 c44 k44
 have D44:Def K mg "check_pattern" s_check_pattern ["pattern"]:=⟨_,_,F44,F44.binds (ps:=["pattern"]) fun _ _ _ _ _ _ us hl=>match us,hl with | [_],_=>rfl,W.mg_of X G a44⟩
 have F45:=fun_mk (st:=s_copied) l45 c45 k45
 have D45:Def K mg "copied" s_copied ["pattern"]:=⟨_,_,F45,F45.binds (ps:=["pattern"]) fun _ _ _ _ _ _ us hl=>match us,hl with | [_],_=>rfl,W.mg_of X G a45⟩
 have F46:=fun_mk (st:=s_Patterned____init__) l46 c46 k46
 have B46:=F46.binds (ps:=["self", "triangle", "pattern"]) fun _ _ _ _ _ _ us hl=>match us,hl with | [_,_,_],_=>rfl
 have F47:=fun_mk (st:=s__law_pattern) l47 c47 k47
 have D47:Def K mg "_law_pattern" s__law_pattern ["_law_number", "_law_more"]:=⟨_,_,F47,F47.binds (ps:=["_law_number", "_law_more"]) fun _ _ _ _ _ _ us hl=>match us,hl with | [_,_],_=>rfl,W.mg_of X G a47⟩
 have F48:=fun_mk (st:=s__law_thing) l48 c48 k48
 have D48:Def K mg "_law_thing" s__law_thing ["_law_draws_here", "_law_triangle"]:=⟨_,_,F48,F48.binds (ps:=["_law_draws_here", "_law_triangle"]) fun _ _ _ _ _ _ us hl=>match us,hl with | [_,_],_=>rfl,W.mg_of X G a48⟩
 have F49:=fun_mk (st:=s__law_corner) l49 c49 k49
 have D49:Def K mg "_law_corner" s__law_corner ["_law_draws_here", "_law_many"]:=⟨_,_,F49,F49.binds (ps:=["_law_draws_here", "_law_many"]) fun _ _ _ _ _ _ us hl=>match us,hl with | [_,_],_=>rfl,W.mg_of X G a49⟩
 have F50:=fun_mk (st:=s__law_triangles) l50 c50 k50
 have D50:Def K mg "_law_triangles" s__law_triangles ["_law_script", "_law_first", "_law_most", "_law_many"]:=⟨_,_,F50,F50.binds (ps:=["_law_script", "_law_first", "_law_most", "_law_many"]) fun _ _ _ _ _ _ us hl=>match us,hl with | [_,_,_,_],_=>rfl,W.mg_of X G a50⟩
 have F51:=fun_mk (st:=s__law_things) l51 c51 k51
 have D51:Def K mg "_law_things" s__law_things ["_law_script", "_law_first", "_law_most"]:=⟨_,_,F51,F51.binds (ps:=["_law_script", "_law_first", "_law_most"]) fun _ _ _ _ _ _ us hl=>match us,hl with | [_,_,_],_=>rfl,W.mg_of X G a51⟩
 have F52:=fun_mk (st:=s_minus) l52 c52 k52
 have D52:Def K mg "minus" s_minus ["one", "other"]:=⟨_,_,F52,F52.binds (ps:=["one", "other"]) fun _ _ _ _ _ _ us hl=>match us,hl with | [_,_],_=>rfl,W.mg_of X G a52⟩
 have F53:=fun_mk (st:=s_plus) l53 c53 k53
 have D53:Def K mg "plus" s_plus ["one", "other"]:=⟨_,_,F53,F53.binds (ps:=["one", "other"]) fun _ _ _ _ _ _ us hl=>match us,hl with | [_,_],_=>rfl,W.mg_of X G a53⟩
 have F54:=fun_mk (st:=s_product) l54 c54 k54
 have D54:Def K mg "product" s_product ["one", "other"]:=⟨_,_,F54,F54.binds (ps:=["one", "other"]) fun _ _ _ _ _ _ us hl=>match us,hl with | [_,_],_=>rfl,W.mg_of X G a54⟩
 have F55:=fun_mk (st:=s_laid_over) l55 c55 k55
 have D55:Def K mg "laid_over" s_laid_over ["glass", "colour"]:=⟨_,_,F55,F55.binds (ps:=["glass", "colour"]) fun _ _ _ _ _ _ us hl=>match us,hl with | [_,_],_=>rfl,W.mg_of X G a55⟩
 have F56:=fun_mk (st:=s_under) l56 c56 k56
 have D56:Def K mg "under" s_under ["one", "other"]:=⟨_,_,F56,F56.binds (ps:=["one", "other"]) fun _ _ _ _ _ _ us hl=>match us,hl with | [_,_],_=>rfl,W.mg_of X G a56⟩
 have F57:=fun_mk (st:=s_layers_over) l57 c57 k57
 have D57:Def K mg "layers_over" s_layers_over ["nearest", "sights"]:=⟨_,_,F57,F57.binds (ps:=["nearest", "sights"]) fun _ _ _ _ _ _ us hl=>match us,hl with | [_,_],_=>rfl,W.mg_of X G a57⟩
 have F58:=fun_mk (st:=s_nearest_of) l58 c58 k58
 have D58:Def K mg "nearest_of" s_nearest_of ["sights"]:=⟨_,_,F58,F58.binds (ps:=["sights"]) fun _ _ _ _ _ _ us hl=>match us,hl with | [_],_=>rfl,W.mg_of X G a58⟩
 have F59:=fun_mk (st:=s_colour_of) l59 c59 k59
 have D59:Def K mg "colour_of" s_colour_of ["sights", "ground"]:=⟨_,_,F59,F59.binds (ps:=["sights", "ground"]) fun _ _ _ _ _ _ us hl=>match us,hl with | [_,_],_=>rfl,W.mg_of X G a59⟩
 have F60:=fun_mk (st:=s_sights_at) l60 c60 k60
 have D60:Def K mg "sights_at" s_sights_at ["things", "p"]:=⟨_,_,F60,F60.binds (ps:=["things", "p"]) fun _ _ _ _ _ _ us hl=>match us,hl with | [_,_],_=>rfl,W.mg_of X G a60⟩
 have F61:=fun_mk (st:=s_colour_seen) l61 c61 k61
 have D61:Def K mg "colour_seen" s_colour_seen ["things", "p", "ground"]:=⟨_,_,F61,F61.binds (ps:=["things", "p", "ground"]) fun _ _ _ _ _ _ us hl=>match us,hl with | [_,_,_],_=>rfl,W.mg_of X G a61⟩
 have F62:=fun_mk (st:=s_law) l62 c62 k62
 have D62:Def K mg "law" s_law ["_law_script"]:=⟨_,_,F62,F62.binds (ps:=["_law_script"]) fun _ _ _ _ _ _ us hl=>match us,hl with | [_],_=>rfl,W.mg_of X G a62⟩
 refine ⟨W.fnOf "law" "law" (defArgs s_law) (defBody s_law) (defScope s_law) .none kV62 dc62 pm62 an62 cd62 ct62,fun s v=>.of_eq rfl,fun base _ _=>?_⟩
 have C__law_cell_at:=ok__law_cell_at (P:=l.prog) (w:=w) (base:=base) T D1
 have C_Glass__colour_at:=om_Glass__colour_at (P:=l.prog) (w:=w) (base:=base) T F2
 have C_down:=ok_down (P:=l.prog) (w:=w) (base:=base) T D3
 have C_entry_at:=ok_entry_at (P:=l.prog) (w:=w) (base:=base) T D4 C_down
 have C_Patterned__colour_at:=om_Patterned__colour_at (P:=l.prog) (w:=w) (base:=base) T F5 C_entry_at
 have C_Plain__colour_at:=om_Plain__colour_at (P:=l.prog) (w:=w) (base:=base) T F6
 have C_Shaded__colour_at:=om_Shaded__colour_at (P:=l.prog) (w:=w) (base:=base) T F7
 have CM_colour_at:MethOk l.prog w K mg base 3 1 "colour_at" tab_colour_at:=(.cons (fun C hC=>by cases (W.mg_of X G ob_Plain).symm.trans hC;exact ⟨⟨og_Plain,oh_Plain,oo_Plain,os_Plain⟩,_,_,_,⟨ot_Plain_colour_at,q6,k6⟩,C_Plain__colour_at.mono (by decide),B6,rfl⟩) (.cons (fun C hC=>by cases (W.mg_of X G ob_Shaded).symm.trans hC;exact ⟨⟨og_Shaded,oh_Shaded,oo_Shaded,os_Shaded⟩,_,_,_,⟨ot_Shaded_colour_at,q7,k7⟩,C_Shaded__colour_at.mono (by decide),B7,rfl⟩) (.cons (fun C hC=>by cases (W.mg_of X G ob_Patterned).symm.trans hC;exact ⟨⟨og_Patterned,oh_Patterned,oo_Patterned,os_Patterned⟩,_,_,_,⟨ot_Patterned_colour_at,q5,k5⟩,C_Patterned__colour_at.mono (by decide),B5,rfl⟩) (.cons (fun C hC=>by cases (W.mg_of X G ob_Glass).symm.trans hC;exact ⟨⟨og_Glass,oh_Glass,oo_Glass,os_Glass⟩,_,_,_,⟨ot_Glass_colour_at,q2,k2⟩,C_Glass__colour_at.mono (by decide),B2,rfl⟩) .nil))))
 have C_Glass__is_glass:=om_Glass__is_glass (P:=l.prog) (w:=w) (base:=base) T F8
 have C_Thing__is_glass:=om_Thing__is_glass (P:=l.prog) (w:=w) (base:=base) T F9
 have CM_is_glass:MethOk l.prog w K mg base 1 0 "is_glass" tab_is_glass:=(.cons (fun C hC=>by cases (W.mg_of X G ob_Plain).symm.trans hC;exact ⟨⟨og_Plain,oh_Plain,oo_Plain,os_Plain⟩,_,_,_,⟨ot_Plain_is_glass,q9,k9⟩,C_Thing__is_glass.mono (by decide),B9,rfl⟩) (.cons (fun C hC=>by cases (W.mg_of X G ob_Shaded).symm.trans hC;exact ⟨⟨og_Shaded,oh_Shaded,oo_Shaded,os_Shaded⟩,_,_,_,⟨ot_Shaded_is_glass,q9,k9⟩,C_Thing__is_glass.mono (by decide),B9,rfl⟩) (.cons (fun C hC=>by cases (W.mg_of X G ob_Patterned).symm.trans hC;exact ⟨⟨og_Patterned,oh_Patterned,oo_Patterned,os_Patterned⟩,_,_,_,⟨ot_Patterned_is_glass,q9,k9⟩,C_Thing__is_glass.mono (by decide),B9,rfl⟩) (.cons (fun C hC=>by cases (W.mg_of X G ob_Glass).symm.trans hC;exact ⟨⟨og_Glass,oh_Glass,oo_Glass,os_Glass⟩,_,_,_,⟨ot_Glass_is_glass,q8,k8⟩,C_Glass__is_glass.mono (by decide),B8,rfl⟩) .nil))))
 have C__law_less:=ok__law_less (P:=l.prog) (w:=w) (base:=base) T D10
 have C_greatest_divisor:=ok_greatest_divisor (P:=l.prog) (w:=w) (base:=base) T D11
 have C_ratio:=ok_ratio (P:=l.prog) (w:=w) (base:=base) T D12 C_greatest_divisor
 have C_summed_products:=ok_summed_products (P:=l.prog) (w:=w) (base:=base) T D13
 have C_weighed_h:=ok_weighed_h (P:=l.prog) (w:=w) (base:=base) T D14 C_summed_products
 have C_depth_and_values:=ok_depth_and_values (P:=l.prog) (w:=w) (base:=base) T D15 C_ratio C_summed_products C_weighed_h
 have C_check_before_eye:=ok_check_before_eye (P:=l.prog) (w:=w) (base:=base) T D16
 have C_edge_numbers:=ok_edge_numbers (P:=l.prog) (w:=w) (base:=base) T D17
 have C_side:=ok_side (P:=l.prog) (w:=w) (base:=base) T D18 C_summed_products C_edge_numbers
 have C_had:=ok_had (P:=l.prog) (w:=w) (base:=base) T D19 C_check_before_eye C_side
 have C_edge_sum:=ok_edge_sum (P:=l.prog) (w:=w) (base:=base) T D20 C_summed_products C_edge_numbers
 have C_weights:=ok_weights (P:=l.prog) (w:=w) (base:=base) T D21 C_edge_sum
 have C_seen_at:=ok_seen_at (P:=l.prog) (w:=w) (base:=base) T D22 C_depth_and_values C_had C_weights
 have C__law_sights:=ok__law_sights (P:=l.prog) (w:=w) (base:=base) T D23 C__law_less C_seen_at
 have C__law_colour:=ok__law_colour (P:=l.prog) (w:=w) (base:=base) T D24 CM_colour_at CM_is_glass C__law_less C_ratio C__law_sights
 have C__law_mixed:=ok__law_mixed (P:=l.prog) (w:=w) (base:=base) T D25
 have C__law_draws:=ok__law_draws (P:=l.prog) (w:=w) (base:=base) T D26 C__law_mixed
 have C_Glass__word:=om_Glass__word (P:=l.prog) (w:=w) (base:=base) T F27
 have C_Patterned__word:=om_Patterned__word (P:=l.prog) (w:=w) (base:=base) T F28
 have C_Plain__word:=om_Plain__word (P:=l.prog) (w:=w) (base:=base) T F29
 have C_Shaded__word:=om_Shaded__word (P:=l.prog) (w:=w) (base:=base) T F30
 have CM_word:MethOk l.prog w K mg base 1 0 "word" tab_word:=(.cons (fun C hC=>by cases (W.mg_of X G ob_Plain).symm.trans hC;exact ⟨⟨og_Plain,oh_Plain,oo_Plain,os_Plain⟩,_,_,_,⟨ot_Plain_word,q29,k29⟩,C_Plain__word.mono (by decide),B29,rfl⟩) (.cons (fun C hC=>by cases (W.mg_of X G ob_Shaded).symm.trans hC;exact ⟨⟨og_Shaded,oh_Shaded,oo_Shaded,os_Shaded⟩,_,_,_,⟨ot_Shaded_word,q30,k30⟩,C_Shaded__word.mono (by decide),B30,rfl⟩) (.cons (fun C hC=>by cases (W.mg_of X G ob_Patterned).symm.trans hC;exact ⟨⟨og_Patterned,oh_Patterned,oo_Patterned,os_Patterned⟩,_,_,_,⟨ot_Patterned_word,q28,k28⟩,C_Patterned__word.mono (by decide),B28,rfl⟩) (.cons (fun C hC=>by cases (W.mg_of X G ob_Glass).symm.trans hC;exact ⟨⟨og_Glass,oh_Glass,oo_Glass,os_Glass⟩,_,_,_,⟨ot_Glass_word,q27,k27⟩,C_Glass__word.mono (by decide),B27,rfl⟩) .nil))))
 have C_is_whole:=ok_is_whole (P:=l.prog) (w:=w) (base:=base) T D31
 have C_are_values:=ok_are_values (P:=l.prog) (w:=w) (base:=base) T D32 C_is_whole
 have C_is_corner:=ok_is_corner (P:=l.prog) (w:=w) (base:=base) T D33 C_is_whole C_are_values
 have C_check_triangle:=ok_check_triangle (P:=l.prog) (w:=w) (base:=base) T D34 C_is_corner
 have C_Thing____init__:=oi_Thing (P:=l.prog) (w:=w) (base:=base) T F35 C_check_before_eye C_check_triangle
 have CS_Thing:CalS l.prog w K mg base 5 "Thing" "__init__" 1 objs i_Thing:=⟨_,_,_,_,W.mg_of X G ob_Thing,⟨us_Thing,⟨_,ur_Thing,uf_Thing⟩,uh_Thing,k35⟩,C_Thing____init__,B35⟩
 have C_is_fraction:=ok_is_fraction (P:=l.prog) (w:=w) (base:=base) T D36 C_greatest_divisor C_is_whole
 have C_check_colour:=ok_check_colour (P:=l.prog) (w:=w) (base:=base) T D37 C_is_fraction
 have C_check_part:=ok_check_part (P:=l.prog) (w:=w) (base:=base) T D38 C_is_fraction
 have C_Glass____init__:=oi_Glass (P:=l.prog) (w:=w) (base:=base) T F39 CS_Thing C_check_colour C_check_part
 have CI_Glass:CalI l.prog w K mg base 7 "Glass" 3 objs i_Glass:=⟨_,_,_,_,W.mg_of X G ob_Glass,⟨om_Glass,a39,q39,ok_Glass⟩,C_Glass____init__,B39,rfl⟩
 have C_Plain____init__:=oi_Plain (P:=l.prog) (w:=w) (base:=base) T F40 CS_Thing C_check_colour
 have CI_Plain:CalI l.prog w K mg base 7 "Plain" 2 objs i_Plain:=⟨_,_,_,_,W.mg_of X G ob_Plain,⟨om_Plain,a40,q40,ok_Plain⟩,C_Plain____init__,B40,rfl⟩
 have C_check_values:=ok_check_values (P:=l.prog) (w:=w) (base:=base) T D41
 have C_Shaded____init__:=oi_Shaded (P:=l.prog) (w:=w) (base:=base) T F42 CS_Thing C_check_values
 have CI_Shaded:CalI l.prog w K mg base 7 "Shaded" 1 objs i_Shaded:=⟨_,_,_,_,W.mg_of X G ob_Shaded,⟨om_Shaded,a42,q42,ok_Shaded⟩,C_Shaded____init__,B42,rfl⟩
 have C__law_flat:=ok__law_flat (P:=l.prog) (w:=w) (base:=base) T D43 CM_word CI_Glass CI_Plain CI_Shaded
 have C_check_pattern:=ok_check_pattern (P:=l.prog) (w:=w) (base:=base) T D44 C_is_fraction
 have C_copied:=ok_copied (P:=l.prog) (w:=w) (base:=base) T D45
 have C_Patterned____init__:=oi_Patterned (P:=l.prog) (w:=w) (base:=base) T F46 CS_Thing C_check_values C_check_pattern C_copied
 have CI_Patterned:CalI l.prog w K mg base 7 "Patterned" 2 objs i_Patterned:=⟨_,_,_,_,W.mg_of X G ob_Patterned,⟨om_Patterned,a46,q46,ok_Patterned⟩,C_Patterned____init__,B46,rfl⟩
 have C__law_pattern:=ok__law_pattern (P:=l.prog) (w:=w) (base:=base) T D47 C_ratio C__law_mixed
 have C__law_thing:=ok__law_thing (P:=l.prog) (w:=w) (base:=base) T D48 C_ratio CI_Glass CI_Plain CI_Shaded CI_Patterned C__law_pattern
 have C__law_corner:=ok__law_corner (P:=l.prog) (w:=w) (base:=base) T D49
 have C__law_triangles:=ok__law_triangles (P:=l.prog) (w:=w) (base:=base) T D50 C__law_cell_at C__law_draws C__law_corner
 have C__law_things:=ok__law_things (P:=l.prog) (w:=w) (base:=base) T D51 C__law_cell_at C__law_draws C__law_thing C__law_triangles
 have C_minus:=ok_minus (P:=l.prog) (w:=w) (base:=base) T D52 C_ratio
 have C_plus:=ok_plus (P:=l.prog) (w:=w) (base:=base) T D53 C_ratio
 have C_product:=ok_product (P:=l.prog) (w:=w) (base:=base) T D54 C_ratio
 have C_laid_over:=ok_laid_over (P:=l.prog) (w:=w) (base:=base) T D55 C_minus C_plus C_product
 have C_under:=ok_under (P:=l.prog) (w:=w) (base:=base) T D56
 have C_layers_over:=ok_layers_over (P:=l.prog) (w:=w) (base:=base) T D57 CM_is_glass C_under
 have C_nearest_of:=ok_nearest_of (P:=l.prog) (w:=w) (base:=base) T D58 CM_is_glass C_under
 have C_colour_of:=ok_colour_of (P:=l.prog) (w:=w) (base:=base) T D59 CM_colour_at C_laid_over C_layers_over C_nearest_of
 have C_sights_at:=ok_sights_at (P:=l.prog) (w:=w) (base:=base) T D60 C_seen_at
 have C_colour_seen:=ok_colour_seen (P:=l.prog) (w:=w) (base:=base) T D61 C_colour_of C_sights_at
 exact (ok_law (P:=l.prog) (w:=w) (base:=base) T F62 C__law_cell_at C__law_colour C__law_draws C__law_flat C__law_things C_colour_seen).imp (law_sp pure_law)
theorem walk {l:W.OpenLaw} {q:Program} {loose:List Str} {XP:(Str → Option Value) → Heap → Prop} {YP:World → Heap → Prop} {d:DefRec} {K:Params → W.Frag} (hn:l.most = some 63) (hdf:d.params.defaults = [])
  (hY:∀ (w:World) (h:Heap),YP w h → (K w.params).In h)
  (F:∀ (w:World) (mg:Str → Option Value) (fa:Addr) (h:Heap),(K w.params).In h → h.Ns mainGlobals mg → mg d.name = some (.ref fa) →
   ∃ fd:FuncData,(∀ (s:Shared) (u:Value),BindsTo s fd ⟨[u],[]⟩ [("_law_script", u)]) ∧ ∀ base:Heap,(K w.params).In base → base.Ns mainGlobals mg → FnOk l.prog w (K w.params) mg base (CXR l.prog w) 11 fa fd ["_law_script"] (spLaw (K w.params))) :
  W.WalkO q loose XP YP l.row.toRowW d [] (fun f vs=>PySem.call f vs) :=
 L2.walk_of (n:=63) (k:=11) (x := "_law_script") (CX:=fun w=>CXR l.prog w) (sp:=fun w=>spLaw (K w.params)) hn (by decide) hdf ⟨rfl,by decide,by decide⟩ hY F (fun _ _ a ns hl _ hS=>⟨a,ns,rfl,hS,hl,fun _=>rfl⟩) fun _ _ _ _ _ z=>cxr_no z
end My
open PySem PySem.W PyProof.Rows
set_option maxRecDepth 100000 in
set_option maxHeartbeats 0 in
theorem PySem.Challenge.cw_sampleyard_k53_seen_through_holds : PySem.Challenge.rw_sampleyard_k53_seen_through.Holds := by
 w_on;o_law
 refine holds_open (r:=PySem.Challenge.rw_sampleyard_k53_seen_through.row) (q:=Hd.view) (loose:=[]) (Xt:=(fun s=>xlAt Hd.view [] s && recOk (RowW.records PySem.Challenge.rw_sampleyard_k53_seen_through.row.toRowW) s)) (XP:=XL Hd.view []) (Yf:=Hook.obs (kHook Hd.heap Hd.addrs Hd.addrs_eq)) (Ya:=Hook.val (kHook Hd.heap Hd.addrs Hd.addrs_eq)) (YP:=Hook.says (kHook Hd.heap Hd.addrs Hd.addrs_eq)) (N:=Hd.most) Hd.left (Hook.of (kHook Hd.heap Hd.addrs Hd.addrs_eq)) (Hook.keeps (kHook Hd.heap Hd.addrs Hd.addrs_eq)) (fun s e=>xl_of s (Bool.and_eq_true_iff.mp e).1) XL.keeps (by rfl) (by rfl) (by rfl) (fun s e=>recFacts_of (Bool.and_eq_true_iff.mp e).2) (by rfl) (by assumption) (by decide +kernel) ⟨rfl,rfl,rfl,rfl,rfl,by decide +kernel⟩ ?hw ?hc
 (case hw=>w_witness2)
 k_fill
 refine My.walk (l:=PySem.Challenge.rw_sampleyard_k53_seen_through) rfl rfl (fun w h Y=>W.kIn_of Y) ?F
 case F =>
  intro w mg fa h KX G hmg
  refine' My.all_mk KX G hmg ?ob_Glass ?ob_Patterned ?ob_Plain ?ob_Shaded ?ob_Thing ?a1 ?l1 ?c1 ?k1 ?a2 ?l2 ?c2 ?k2 ?q2 ?a3 ?l3 ?c3 ?k3 ?a4 ?l4 ?c4 ?k4 ?a5 ?l5 ?c5 ?k5 ?q5 ?a6 ?l6 ?c6 ?k6 ?q6 ?a7 ?l7 ?c7 ?k7 ?q7 ?a8 ?l8 ?c8 ?k8 ?q8 ?a9 ?l9 ?c9 ?k9 ?q9 ?a10 ?l10 ?c10 ?k10 ?a11 ?l11 ?c11 ?k11 ?a12 ?l12 ?c12 ?k12 ?a13 ?l13 ?c13 ?k13 ?a14 ?l14 ?c14 ?k14 ?a15 ?l15 ?c15 ?k15 ?a16 ?l16 ?c16 ?k16 ?a17 ?l17 ?c17 ?k17 ?a18 ?l18 ?c18 ?k18 ?a19 ?l19 ?c19 ?k19 ?a20 ?l20 ?c20 ?k20 ?a21 ?l21 ?c21 ?k21 ?a22 ?l22 ?c22 ?k22 ?a23 ?l23 ?c23 ?k23 ?a24 ?l24 ?c24 ?k24 ?a25 ?l25 ?c25 ?k25 ?a26 ?l26 ?c26 ?k26 ?a27 ?l27 ?c27 ?k27 ?q27 ?a28 ?l28 ?c28 ?k28 ?q28 ?a29 ?l29 ?c29 ?k29 ?q29 ?a30 ?l30 ?c30 ?k30 ?q30 ?a31 ?l31 ?c31 ?k31 ?a32 ?l32 ?c32 ?k32 ?a33 ?l33 ?c33 ?k33 ?a34 ?l34 ?c34 ?k34 ?a35 ?l35 ?c35 ?k35 ?q35 ?a36 ?l36 ?c36 ?k36 ?a37 ?l37 ?c37 ?k37 ?a38 ?l38 ?c38 ?k38 ?a39 ?l39 ?c39 ?k39 ?q39 ?a40 ?l40 ?c40 ?k40 ?q40 ?a41 ?l41 ?c41 ?k41 ?a42 ?l42 ?c42 ?k42 ?q42 ?a43 ?l43 ?c43 ?k43 ?a44 ?l44 ?c44 ?k44 ?a45 ?l45 ?c45 ?k45 ?a46 ?l46 ?c46 ?k46 ?q46 ?a47 ?l47 ?c47 ?k47 ?a48 ?l48 ?c48 ?k48 ?a49 ?l49 ?c49 ?k49 ?a50 ?l50 ?c50 ?k50 ?a51 ?l51 ?c51 ?k51 ?a52 ?l52 ?c52 ?k52 ?a53 ?l53 ?c53 ?k53 ?a54 ?l54 ?c54 ?k54 ?a55 ?l55 ?c55 ?k55 ?a56 ?l56 ?c56 ?k56 ?a57 ?l57 ?c57 ?k57 ?a58 ?l58 ?c58 ?k58 ?a59 ?l59 ?c59 ?k59 ?a60 ?l60 ?c60 ?k60 ?a61 ?l61 ?c61 ?k61 ?a62 ?l62 ?c62 ?k62 ?og_Glass ?oh_Glass ?oo_Glass ?os_Glass ?on_Glass_colour ?on_Glass_part ?on_Glass_pattern ?on_Glass_triangle ?ot_Glass_colour_at ?ot_Glass_is_glass ?ot_Glass_word ?om_Glass ?ok_Glass ?og_Patterned ?oh_Patterned ?oo_Patterned ?os_Patterned ?on_Patterned_colour ?on_Patterned_part ?on_Patterned_pattern ?on_Patterned_triangle ?ot_Patterned_colour_at ?ot_Patterned_is_glass ?ot_Patterned_word ?om_Patterned ?ok_Patterned ?og_Plain ?oh_Plain ?oo_Plain ?os_Plain ?on_Plain_colour ?on_Plain_part ?on_Plain_pattern ?on_Plain_triangle ?ot_Plain_colour_at ?ot_Plain_is_glass ?ot_Plain_word ?om_Plain ?ok_Plain ?og_Shaded ?oh_Shaded ?oo_Shaded ?os_Shaded ?on_Shaded_colour ?on_Shaded_part ?on_Shaded_pattern ?on_Shaded_triangle ?ot_Shaded_colour_at ?ot_Shaded_is_glass ?ot_Shaded_word ?om_Shaded ?ok_Shaded ?us_Thing ?ur_Thing ?uf_Thing ?uh_Thing ?z0 ?z1 ?z2 ?z3 ?z4 ?z5 ?z6 ?z7 ?z8 ?z9 ?z10 ?gc0 ?gta0 ?gtl0 ?xa0 ?xb0 ?xa1 ?xb1 ?xa2 ?xb2
  case ob_Glass | ob_Patterned | ob_Plain | ob_Shaded | ob_Thing | a1 | l1 | c1 | k1 | a2 | l2 | c2 | k2 | q2 | a3 | l3 | c3 | k3 | a4 | l4 | c4 | k4 | a5 | l5 | c5=>k_is
  case k5 | q5 | a6 | l6 | c6 | k6 | q6 | a7 | l7 | c7 | k7 | q7 | a8 | l8 | c8 | k8 | q8 | a9 | l9 | c9 | k9 | q9 | a10 | l10 | c10=>k_is
  case k10 | a11 | l11 | c11 | k11 | a12 | l12 | c12 | k12 | a13 | l13 | c13 | k13 | a14 | l14 | c14 | k14 | a15 | l15 | c15 | k15 | a16 | l16 | c16 | k16=>k_is
  case a17 | l17 | c17 | k17 | a18 | l18 | c18 | k18 | a19 | l19 | c19 | k19 | a20 | l20 | c20 | k20 | a21 | l21 | c21 | k21 | a22 | l22 | c22 | k22 | a23=>k_is
  case l23 | c23 | k23 | a24 | l24 | c24 | k24 | a25 | l25 | c25 | k25 | a26 | l26 | c26 | k26 | a27 | l27 | c27 | k27 | q27 | a28 | l28 | c28 | k28 | q28=>k_is
  case a29 | l29 | c29 | k29 | q29 | a30 | l30 | c30 | k30 | q30 | a31 | l31 | c31 | k31 | a32 | l32 | c32 | k32 | a33 | l33 | c33 | k33 | a34 | l34 | c34=>k_is
  case k34 | a35 | l35 | c35 | k35 | q35 | a36 | l36 | c36 | k36 | a37 | l37 | c37 | k37 | a38 | l38 | c38 | k38 | a39 | l39 | c39 | k39 | q39 | a40 | l40=>k_is
  case c40 | k40 | q40 | a41 | l41 | c41 | k41 | a42 | l42 | c42 | k42 | q42 | a43 | l43 | c43 | k43 | a44 | l44 | c44 | k44 | a45 | l45 | c45 | k45 | a46=>k_is
  case l46 | c46 | k46 | q46 | a47 | l47 | c47 | k47 | a48 | l48 | c48 | k48 | a49 | l49 | c49 | k49 | a50 | l50 | c50 | k50 | a51 | l51 | c51 | k51 | a52=>k_is
  case l52 | c52 | k52 | a53 | l53 | c53 | k53 | a54 | l54 | c54 | k54 | a55 | l55 | c55 | k55 | a56 | l56 | c56 | k56 | a57 | l57 | c57 | k57 | a58 | l58=>k_is
  case c58 | k58 | a59 | l59 | c59 | k59 | a60 | l60 | c60 | k60 | a61 | l61 | c61 | k61 | a62 | l62 | c62 | k62 | og_Glass | oh_Glass | oo_Glass | os_Glass | on_Glass_colour | on_Glass_part | on_Glass_pattern=>k_is
  case on_Glass_triangle | ot_Glass_colour_at | ot_Glass_is_glass | ot_Glass_word | om_Glass | ok_Glass | og_Patterned | oh_Patterned | oo_Patterned | os_Patterned | on_Patterned_colour | on_Patterned_part | on_Patterned_pattern | on_Patterned_triangle | ot_Patterned_colour_at | ot_Patterned_is_glass | ot_Patterned_word | om_Patterned | ok_Patterned | og_Plain | oh_Plain | oo_Plain | os_Plain | on_Plain_colour | on_Plain_part=>k_is
  case on_Plain_pattern | on_Plain_triangle | ot_Plain_colour_at | ot_Plain_is_glass | ot_Plain_word | om_Plain | ok_Plain | og_Shaded | oh_Shaded | oo_Shaded | os_Shaded | on_Shaded_colour | on_Shaded_part | on_Shaded_pattern | on_Shaded_triangle | ot_Shaded_colour_at | ot_Shaded_is_glass | ot_Shaded_word | om_Shaded | ok_Shaded | us_Thing | ur_Thing | uf_Thing=>k_is
  case uh_Thing=>rfl
  case z0 | z1 | z2 | z3 | z4 | z5 | z6 | z7 | z8 | z9 | z10 | gc0 | gta0 | gtl0 | xa0=>k_is
  case xb0=>k_exc
  case xa1=>k_is
  case xb1=>k_exc
  case xa2=>k_is
  case xb2=>k_exc
